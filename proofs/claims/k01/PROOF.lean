import PyProof.Rows.All
import Wide.All
import OpenK.AllK
import Wide.FinOn
import HandS.ForMost
import HandS.Wide
import HandS.Gcd
import HandS.IsInst
import HandS.TupAny
import HandS.Conv
import HandS.Style
import PySem.Challenge.RW_loadorloose_k01_numbers
set_option Elab.async false
set_option linter.all false
set_option maxRecDepth 100000
set_option maxHeartbeats 4000000
namespace L2
open PySem
abbrev D := PyData
theorem sqT_up {K : PySem.W.Frag} {H H' : Hp} {a : Addr} {xs : List V} (e : Same H H') (h : SqT K H a xs) : SqT K H' a xs := by
  rcases h with (h | ⟨o, h⟩) | h
  · exact .inl (.inl (e _ _ h))
  · exact .inl (.inr ⟨o, e _ _ h⟩)
  · exact .inr h
section
variable {K : PySem.W.Frag} {H H' : Hp}
mutual
theorem Dp.up (e : Same H H') : ∀ (d : D) (v : V), Dp K H v d → Dp K H' v d
  | .none, _, h => by cases h; exact .non
  | .bool b, _, h => by cases h; exact .bl b
  | .int i, _, h => by cases h; exact .int i
  | .str x, _, h => by cases h; exact .str x
  | .list ds, _, h => by
    cases h with
    | lst hs ha => exact .lst (e.seq hs) (DpAll.up e ds _ ha)
  | .tuple ds, _, h => by
    cases h with
    | tup hs ha => exact .tup (sqT_up e hs) (DpAll.up e ds _ ha)
  | .dict _, _, h => by cases h
theorem DpAll.up (e : Same H H') : ∀ (ds : List D) (vs : List V), DpAll K H vs ds → DpAll K H' vs ds
  | [], _, h => by cases h; exact .nil
  | d :: ds, _, h => by
    cases h with
    | cons h1 h2 => exact .cons (Dp.up e d _ h1) (DpAll.up e ds _ h2)
end
theorem DpAll.len : ∀ {vs : List V} {ds : List D}, DpAll K H vs ds → vs.length = ds.length
  | _, [], h => by cases h; rfl
  | _, d :: ds, h => by
    cases h with
    | cons h1 h2 => simp only [List.length_cons]; rw [DpAll.len h2]
theorem DpAll.get : ∀ {vs : List V} {ds : List D} {i : Nat} {d : D}, DpAll K H vs ds → ds[i]? = some d → ∃ v, vs[i]? = some v ∧ Dp K H v d
  | _, [], _, _, _, e => by simp at e
  | _, x :: ds, 0, d, h, e => by
    cases h with
    | cons h1 h2 => simp at e; subst e; exact ⟨_, rfl, h1⟩
  | _, x :: ds, i + 1, d, h, e => by
    cases h with
    | cons h1 h2 =>
      obtain ⟨v, a, b⟩ := DpAll.get (i := i) h2 (by simpa using e)
      exact ⟨v, by simpa using a, b⟩
theorem DpAll.getV : ∀ {vs : List V} {ds : List D} {i : Nat} {v : V}, DpAll K H vs ds → vs[i]? = some v → ∃ d, ds[i]? = some d ∧ Dp K H v d
  | [], _, _, _, _, e => by simp at e
  | x :: vs, _, 0, d, h, e => by
    cases h with
    | cons h1 h2 => simp at e; subst e; exact ⟨_, rfl, h1⟩
  | x :: vs, _, i + 1, d, h, e => by
    cases h with
    | cons h1 h2 =>
      obtain ⟨v, a, b⟩ := DpAll.getV (i := i) h2 (by simpa using e)
      exact ⟨v, by simpa using a, b⟩
theorem DpAll.app : ∀ {vs ws : List V} {ds es : List D}, DpAll K H vs ds → DpAll K H ws es → DpAll K H (vs ++ ws) (ds ++ es)
  | _, _, [], _, h, h' => by cases h; exact h'
  | _, _, d :: ds, _, h, h' => by
    cases h with
    | cons h1 h2 => exact .cons h1 (DpAll.app h2 h')
theorem DpAll.take : ∀ (n : Nat) {vs : List V} {ds : List D}, DpAll K H vs ds → DpAll K H (vs.take n) (ds.take n)
  | 0, _, _, _ => .nil
  | n + 1, _, [], h => by cases h; exact .nil
  | n + 1, _, d :: ds, h => by
    cases h with
    | cons h1 h2 => exact .cons h1 (DpAll.take n h2)
theorem DpAll.drop : ∀ (n : Nat) {vs : List V} {ds : List D}, DpAll K H vs ds → DpAll K H (vs.drop n) (ds.drop n)
  | 0, _, _, h => h
  | n + 1, _, [], h => by cases h; exact .nil
  | n + 1, _, d :: ds, h => by
    cases h with
    | cons h1 h2 => exact DpAll.drop n h2
theorem DpAll.set {v : V} {d : D} (q : Dp K H v d) : ∀ (n : Nat) {vs : List V} {ds : List D}, DpAll K H vs ds → DpAll K H (vs.set n v) (ds.set n d)
  | _, _, [], h => by cases h; exact .nil
  | 0, _, e :: ds, h => by
    cases h with
    | cons h1 h2 => exact .cons q h2
  | n + 1, _, e :: ds, h => by
    cases h with
    | cons h1 h2 => exact .cons h1 (DpAll.set q n h2)
/-- ints -/
theorem DpAll.ints : ∀ {ns : List Int} {vs : List V}, DpAll K H vs (ns.map PyData.int) → vs = ns.map V.int
  | [], _, h => by cases h; rfl
  | n :: ns, _, h => by
    cases h with
    | cons h1 h2 => cases h1; rw [DpAll.ints h2]; rfl
theorem DpAll.ofInts : ∀ {ns : List Int}, DpAll K H (ns.map V.int) (ns.map PyData.int)
  | [] => .nil
  | n :: ns => .cons (.int n) DpAll.ofInts
theorem DpAll.bools : ∀ {ns : List Bool} {vs : List V}, DpAll K H vs (ns.map PyData.bool) → vs = ns.map V.bl
  | [], _, h => by cases h; rfl
  | n :: ns, _, h => by
    cases h with
    | cons h1 h2 => cases h1; rw [DpAll.bools h2]; rfl
end

section
variable {K : PySem.W.Frag}
theorem Dp.int_inv {H : Hp} {v : V} {i : Int} (h : Dp K H v (.int i)) : v = .int i := by cases h; rfl
theorem Dp.bool_inv {H : Hp} {v : V} {b : Bool} (h : Dp K H v (.bool b)) : v = .bl b := by cases h; rfl
end
end L2
namespace DX
open PySem L2

/-! ### the local names -/
inductive SV where
  | no
  | val (d : D)
  | own (ds : List D)

structure Hist (B0 H0 B H : Hp) : Prop where
  bb : Same B0 B
  bh : Same B H
  hh : Same H0 H
  fr : ∀ a, H0 a ≠ none → B0 a = none → B a = none

def SlotOk (K : PySem.W.Frag) (B H H0 : Hp) (o : Option V) : SV → Prop
  | .no => True
  | .val d => ∃ v, o = some v ∧ Dp K B v d
  | .own ds => ∃ p vs, o = some (.ref p) ∧ H p = some (.lst vs) ∧ B p = none ∧ H0 p = none ∧ DpAll K B vs ds

structure Sd (K : PySem.W.Frag) (B0 H0 B H : Hp) (σ : L2.St) (δ : List SV) : Prop where
  hist : Hist B0 H0 B H
  len : σ.length = δ.length
  ok : ∀ (i : Nat) (s : SV), δ[i]? = some s → ∃ o, σ[i]? = some o ∧ SlotOk K B H H0 o s
  apart : ∀ (i j : Nat) (p : Addr) (ds es : List D), i ≠ j → δ[i]? = some (.own ds) → δ[j]? = some (.own es) → σ[i]? = some (some (.ref p)) → σ[j]? ≠ some (some (.ref p))

section
variable {K : PySem.W.Frag} {B0 H0 B H B' H' : Hp} {σ : L2.St} {δ : List SV}

/-- a step that leaves what is there -/
structure Stp (B H B' H' : Hp) : Prop where
  bb : Same B B'
  bh : Same B' H'
  hh : Same H H'
  fr : ∀ a, H a ≠ none → B a = none → B' a = none
theorem Stp.refl (h : Same B H) : Stp B H B H := ⟨Same.refl _, h, Same.refl _, fun _ _ z => z⟩
theorem ne_none_of {a : Addr} (e : Same H H') (h : H a ≠ none) : H' a ≠ none := by
  cases q : H a with
  | none => exact absurd q h
  | some o => rw [e a o q]; exact fun z => nomatch z
theorem Stp.trans {B1 H1 B2 H2 : Hp} (a : Stp B H B1 H1) (b : Stp B1 H1 B2 H2) : Stp B H B2 H2 :=
  ⟨a.bb.trans b.bb, b.bh, a.hh.trans b.hh, fun x h z => b.fr x (ne_none_of a.hh h) (a.fr x h z)⟩
theorem Stp.hist (s : Stp B H B' H') (h : Hist B0 H0 B H) : Hist B0 H0 B' H' :=
  ⟨h.bb.trans s.bb, s.bh, h.hh.trans s.hh, fun x q z => s.fr x (ne_none_of h.hh q) (h.fr x q z)⟩
theorem SlotOk.step {o : Option V} {x : SV} (s : Stp B H B' H') (h : SlotOk K B H H0 o x) : SlotOk K B' H' H0 o x := by
  cases x with
  | no => exact True.intro
  | val d => obtain ⟨v, e, q⟩ := h; exact ⟨v, e, Dp.up s.bb _ _ q⟩
  | own ds =>
    obtain ⟨p, vs, e, hp, bp, h0, q⟩ := h
    exact ⟨p, vs, e, s.hh _ _ hp, s.fr p (by rw [hp]; exact fun z => nomatch z) bp, h0, DpAll.up s.bb _ _ q⟩
theorem Sd.step (S : Sd K B0 H0 B H σ δ) (s : Stp B H B' H') : Sd K B0 H0 B' H' σ δ :=
  ⟨s.hist S.hist, S.len, fun i x e => by
    obtain ⟨o, a, q⟩ := S.ok i x e
    exact ⟨o, a, q.step s⟩, S.apart⟩
theorem same_new {p : Addr} {o : HO} (h : H p = none) : Same H (upd H p o) := fun b x e => by
  rw [upd_ne (ne_of_none e h)]; exact e
/-- a new object, known to both -/
theorem Stp.new {p : Addr} {o : HO} (bh : Same B H) (h : H p = none) : Stp B H (upd B p o) (upd H p o) := by
  have hb : B p = none := bh.free h
  refine ⟨same_new hb, fun a u e => ?_, same_new h, fun a q z => ?_⟩
  · by_cases ha : a = p
    · subst ha; rw [upd_same] at e ⊢; exact e
    · rw [upd_ne ha] at e ⊢; exact bh _ _ e
  · have ha : a ≠ p := fun e => by subst e; exact q h
    rw [upd_ne ha]; exact z
/-- a new object, owned -/
theorem Stp.newOwn {p : Addr} {o : HO} (bh : Same B H) (h : H p = none) : Stp B H B (upd H p o) :=
  ⟨Same.refl _, fun a u e => same_new h _ _ (bh _ _ e), same_new h, fun _ _ z => z⟩
/-- an owned one is made known -/
theorem Stp.know {p : Addr} {o : HO} (bh : Same B H) (hb : B p = none) (hp : H p = some o) : Same B (upd B p o) ∧ Same (upd B p o) H := by
  refine ⟨same_new hb, fun a u e => ?_⟩
  by_cases ha : a = p
  · subst ha; rw [upd_same] at e; rw [← e]; exact hp
  · rw [upd_ne ha] at e; exact bh _ _ e
theorem Sd.slot (S : Sd K B0 H0 B H σ δ) {i : Nat} {d : D} (e : δ[i]? = some (.val d)) : ∃ v, σ[i]? = some (some v) ∧ Dp K B v d := by
  obtain ⟨o, a, v, rfl, q⟩ := S.ok i _ e
  exact ⟨v, a, q⟩
theorem Sd.slotOwn (S : Sd K B0 H0 B H σ δ) {i : Nat} {ds : List D} (e : δ[i]? = some (.own ds)) : ∃ p vs, σ[i]? = some (some (.ref p)) ∧ H p = some (.lst vs) ∧ B p = none ∧ H0 p = none ∧ DpAll K B vs ds := by
  obtain ⟨o, a, p, vs, rfl, q⟩ := S.ok i _ e
  exact ⟨p, vs, a, q⟩
theorem get_set {α : Type} {xs : List α} {i j : Nat} {x y : α} (h : (xs.set i x)[j]? = some y) : (i = j ∧ x = y) ∨ (i ≠ j ∧ xs[j]? = some y) := by
  by_cases e : i = j
  · subst e
    have hl : i < xs.length := by
      have := (List.getElem?_eq_some_iff.mp h).1
      simpa using this
    rw [List.getElem?_set_self hl] at h
    exact .inl ⟨rfl, Option.some.inj h⟩
  · rw [List.getElem?_set_ne e] at h
    exact .inr ⟨e, h⟩
theorem set_some {α : Type} {xs : List α} {i j : Nat} {x : α} (h : j < xs.length) : ∃ y, (xs.set i x)[j]? = some y ∧ ((i = j ∧ y = x) ∨ (i ≠ j ∧ xs[j]? = some y)) := by
  have h' : j < (xs.set i x).length := by rw [List.length_set]; exact h
  refine ⟨_, List.getElem?_eq_getElem h', ?_⟩
  rcases get_set (List.getElem?_eq_getElem h') with ⟨a, b⟩ | ⟨a, b⟩
  · exact .inl ⟨a, b.symm⟩
  · exact .inr ⟨a, b⟩
/-- a slot is stored -/
theorem Sd.set (S : Sd K B0 H0 B H σ δ) {i : Nat} {o : Option V} {x : SV} (h : SlotOk K B H H0 o x)
    (ap : ∀ ds, x = .own ds → ∀ j p es, i ≠ j → o = some (.ref p) → δ[j]? = some (.own es) → σ[j]? ≠ some (some (.ref p))) : Sd K B0 H0 B H (σ.set i o) (δ.set i x) := by
  refine ⟨S.hist, by rw [List.length_set, List.length_set]; exact S.len, fun j s e => ?_, fun j k p ds es n e1 e2 e3 e4 => ?_⟩
  · have hj : j < σ.length := by
      have := (List.getElem?_eq_some_iff.mp e).1
      rw [List.length_set] at this
      rw [S.len]; exact this
    obtain ⟨y, hy, c⟩ := set_some (xs := σ) (i := i) (x := o) hj
    rcases get_set e with ⟨a, b⟩ | ⟨a, b⟩
    · subst b
      rcases c with ⟨_, c⟩ | ⟨c, _⟩
      · subst c; exact ⟨_, hy, h⟩
      · exact absurd a c
    · rcases c with ⟨c, _⟩ | ⟨_, c⟩
      · exact absurd c a
      · obtain ⟨o', q, w⟩ := S.ok j s b
        rw [q] at c; cases c
        exact ⟨_, hy, w⟩
  · rcases get_set e1 with ⟨a, b⟩ | ⟨a, b⟩
    · rcases get_set e2 with ⟨a', b'⟩ | ⟨a', b'⟩
      · exact n (a.symm.trans a')
      · rcases get_set e3 with ⟨c, d⟩ | ⟨c, d⟩
        · rcases get_set e4 with ⟨c', d'⟩ | ⟨c', d'⟩
          · exact a' c'
          · exact ap ds b k p es a' d b' d'
        · exact absurd a c
    · rcases get_set e2 with ⟨a', b'⟩ | ⟨a', b'⟩
      · rcases get_set e4 with ⟨c, d⟩ | ⟨c, d⟩
        · rcases get_set e3 with ⟨c', d'⟩ | ⟨c', d'⟩
          · exact a c'
          · exact ap es b' j p ds a d b d'
        · exact absurd a' c
      · rcases get_set e3 with ⟨c, d⟩ | ⟨c, d⟩
        · exact absurd c a
        · rcases get_set e4 with ⟨c', d'⟩ | ⟨c', d'⟩
          · exact absurd c' a'
          · exact S.apart j k p ds es n b b' d d'
theorem Sd.setVal (S : Sd K B0 H0 B H σ δ) {i : Nat} {v : V} {d : D} (h : Dp K B v d) : Sd K B0 H0 B H (σ.set i (some v)) (δ.set i (.val d)) :=
  S.set ⟨v, rfl, h⟩ fun _ z => nomatch z
/-- a slot is forgotten -/
theorem Sd.forget (S : Sd K B0 H0 B H σ δ) {i : Nat} {o : Option V} : Sd K B0 H0 B H (σ.set i o) (δ.set i .no) :=
  S.set True.intro fun _ z => nomatch z
/-- another past -/
theorem Sd.past {B1 : Hp} (S : Sd K B0 H0 B H σ δ) (h0 : Same B0 B1) (h : Same B1 B) : Sd K B1 H0 B H σ δ :=
  ⟨⟨h, S.hist.bh, S.hist.hh, fun a q z => S.hist.fr a q (h0.free z)⟩, S.len, S.ok, S.apart⟩
theorem Hist.back {B1 H1 : Hp} (S : Hist B1 H0 B H) (h0 : Hist B0 H0 B1 H1) : Hist B0 H0 B H :=
  ⟨h0.bb.trans S.bb, S.bh, S.hh, fun a q z => S.fr a q (h0.fr a q z)⟩
theorem Sd.back {B1 H1 : Hp} (S : Sd K B1 H0 B H σ δ) (h0 : Hist B0 H0 B1 H1) : Sd K B0 H0 B H σ δ :=
  ⟨S.hist.back h0, S.len, S.ok, S.apart⟩
end

/-! ### what an expression gives -/
section
variable (K : PySem.W.Frag)
def ED (te : TE) (δ : List SV) (d : D) : Prop := ∀ (B0 H0 B H : Hp) (σ : L2.St) (Q : VK), Sd K B0 H0 B H σ δ → (∀ v B' H', Stp B H B' H' → Dp K B' v d → Q v H') → te σ H Q
def ET (tt : TT) (δ : List SV) (b : Bool) : Prop := ∀ (B0 H0 B H : Hp) (σ : L2.St) (Q : Bool → Hp → Prop), Sd K B0 H0 B H σ δ → (∀ B' H', Stp B H B' H' → Q b H') → tt σ H Q
def EA (ta : TA) (δ : List SV) (ds : List D) : Prop := ∀ (B0 H0 B H : Hp) (σ : L2.St) (Q : List V → Hp → Prop), Sd K B0 H0 B H σ δ → (∀ vs B' H', Stp B H B' H' → DpAll K B' vs ds → Q vs H') → ta σ H Q
def EO (to : TO) (δ : List SV) (o : Option Int) : Prop := ∀ (B0 H0 B H : Hp) (σ : L2.St) (Q : Option Int → Hp → Prop), Sd K B0 H0 B H σ δ → (∀ B' H', Stp B H B' H' → Q o H') → to σ H Q
/-- a new list -/
def EN (te : TE) (δ : List SV) (ds : List D) : Prop := ∀ (B0 H0 B H : Hp) (σ : L2.St) (Q : VK), Sd K B0 H0 B H σ δ → (∀ p vs B' H', Stp B H B' H' → H p = none → B' p = none → H' p = some (.lst vs) → DpAll K B' vs ds → Q (.ref p) H') → te σ H Q
end
section
variable {K : PySem.W.Frag} {δ : List SV} {ta tb te : TE} {t u : TT} {d x y : D} {ds es : List D}
theorem EN.ed (h : EN K te δ ds) : ED K te δ (.list ds) := fun B0 H0 B H σ Q S q => h B0 H0 B H σ Q S fun p vs B' H' s hn hb hp a => by
  obtain ⟨k1, k2⟩ := Stp.know (o := .lst vs) s.bh hb hp
  refine q (.ref p) (upd B' p (.lst vs)) H' ⟨s.bb.trans k1, k2, s.hh, fun b q1 z => ?_⟩ (.lst (.inl (.inl upd_same)) (DpAll.up k1 _ _ a))
  have hbp : b ≠ p := fun e => by subst e; exact q1 hn
  rw [upd_ne hbp]
  exact s.fr b q1 z
theorem ed_var {i : Nat} (h : δ[i]? = some (.val d)) : ED K (tVar i) δ d := fun B0 H0 B H σ Q S q => by
  obtain ⟨v, a, b⟩ := S.slot h
  exact ⟨v, a, q v B H (.refl S.hist.bh) b⟩
inductive Sc : V → D → Prop
  | non : Sc .non .none
  | bl (b : Bool) : Sc (.bl b) (.bool b)
  | int (i : Int) : Sc (.int i) (.int i)
  | str (x : Str) : Sc (.str x) (.str x)
theorem Sc.dp {H : Hp} {v : V} : Sc v d → Dp K H v d
  | .non => .non
  | .bl b => .bl b
  | .int i => .int i
  | .str x => .str x
theorem ed_c {v : V} (h : Sc v d) : ED K (tC v) δ d := fun B0 H0 B H σ Q S q => q v B H (.refl S.hist.bh) h.dp
theorem ed_int {i : Int} : ED K (tC (.int i)) δ (.int i) := ed_c (.int i)
theorem ed_bl {b : Bool} : ED K (tC (.bl b)) δ (.bool b) := ed_c (.bl b)
theorem ed_non : ED K (tC .non) δ .none := ed_c .non
theorem ed_str {x : Str} : ED K (tC (.str x)) δ (.str x) := ed_c (.str x)
theorem ed_rI {C : Int → Int → Prop} {g : Int → Int → V} {i j : Int} (ha : ED K ta δ (.int i)) (hb : ED K tb δ (.int j)) (hc : C i j) (hg : Sc (g i j) d) : ED K (tOp (rI C g) ta tb) δ d := fun B0 H0 B H σ Q S q =>
  ha B0 H0 B H σ _ S fun v B1 H1 s1 a => hb B0 H0 B1 H1 σ _ (S.step s1) fun w B2 H2 s2 b => by
    cases Dp.int_inv a; cases Dp.int_inv b
    exact ⟨i, j, rfl, rfl, hc, q _ B2 H2 (s1.trans s2) hg.dp⟩
theorem ed_rI0 {g : Int → Int → V} {i j : Int} (ha : ED K ta δ (.int i)) (hb : ED K tb δ (.int j)) (hg : Sc (g i j) d) : ED K (tOp (rI0 g) ta tb) δ d := fun B0 H0 B H σ Q S q =>
  ha B0 H0 B H σ _ S fun v B1 H1 s1 a => hb B0 H0 B1 H1 σ _ (S.step s1) fun w B2 H2 s2 b => by
    cases Dp.int_inv a; cases Dp.int_inv b
    exact ⟨i, j, rfl, rfl, q _ B2 H2 (s1.trans s2) hg.dp⟩
theorem ed_rU {g : Int → V} {i : Int} (ha : ED K ta δ (.int i)) (hg : Sc (g i) d) : ED K (tUn (rU g) ta) δ d := fun B0 H0 B H σ Q S q =>
  ha B0 H0 B H σ _ S fun v B1 H1 s1 a => by
    cases Dp.int_inv a
    exact ⟨i, rfl, q _ B1 H1 s1 hg.dp⟩
theorem ed_eqD (ha : ED K ta δ x) (hb : ED K tb δ y) (sx : SeqAt.shaped x = true) (sy : SeqAt.shaped y = true) {b : Bool} (e : PyData.eqv x y = b) : ED K (tOp (rEqD K) ta tb) δ (.bool b) := fun B0 H0 B H σ Q S q =>
  ha B0 H0 B H σ _ S fun v B1 H1 s1 a => hb B0 H0 B1 H1 σ _ (S.step s1) fun w B2 H2 s2 c =>
    ⟨x, y, Dp.up (s2.bb.trans s2.bh) _ _ a, Dp.up s2.bh _ _ c, sx, sy, by rw [e]; exact q _ B2 H2 (s1.trans s2) (.bl b)⟩
theorem ed_neD (ha : ED K ta δ x) (hb : ED K tb δ y) (sx : SeqAt.shaped x = true) (sy : SeqAt.shaped y = true) {b : Bool} (e : (!PyData.eqv x y) = b) : ED K (tOp (rNeD K) ta tb) δ (.bool b) := fun B0 H0 B H σ Q S q =>
  ha B0 H0 B H σ _ S fun v B1 H1 s1 a => hb B0 H0 B1 H1 σ _ (S.step s1) fun w B2 H2 s2 c =>
    ⟨x, y, Dp.up (s2.bb.trans s2.bh) _ _ a, Dp.up s2.bh _ _ c, sx, sy, by rw [e]; exact q _ B2 H2 (s1.trans s2) (.bl b)⟩
/-- the item of data at an int -/
def itemD (x : D) (i : Int) : Option D := match x with
  | .list ds => atI ds i
  | .tuple ds => atI ds i
  | _ => none
theorem atI_dp {H : Hp} {vs : List V} {i : Int} (h : DpAll K H vs ds) (e : atI ds i = some d) : ∃ v, atI vs i = some v ∧ Dp K H v d := by
  unfold atI at e ⊢
  rw [h.len]
  cases q : ixN ds.length i with
  | none => rw [q] at e; cases e
  | some j =>
    rw [q] at e
    exact h.get e
theorem ed_ix {i : Int} (ha : ED K ta δ x) (hb : ED K tb δ (.int i)) (e : itemD x i = some d) : ED K (tOp (rIx K) ta tb) δ d := fun B0 H0 B H σ Q S q =>
  ha B0 H0 B H σ _ S fun v B1 H1 s1 a => hb B0 H0 B1 H1 σ _ (S.step s1) fun w B2 H2 s2 c => by
    cases Dp.int_inv c
    cases a with
    | lst hs hA =>
      obtain ⟨v, e1, e2⟩ := atI_dp hA e
      exact .inl ⟨_, _, i, v, rfl, rfl, (s2.bb.trans s2.bh).seq hs, e1, q v B2 H2 (s1.trans s2) (Dp.up s2.bb _ _ e2)⟩
    | tup hs hA =>
      obtain ⟨v, e1, e2⟩ := atI_dp hA e
      exact .inr (.inl ⟨_, _, i, v, rfl, rfl, sqT_up (s2.bb.trans s2.bh) hs, e1, q v B2 H2 (s1.trans s2) (Dp.up s2.bb _ _ e2)⟩)
    | _ => cases e
/-- an owned list's item -/
theorem ed_ixOwn {k : Nat} {i : Int} (ha : δ[k]? = some (.own ds)) (hb : ED K tb δ (.int i)) (e : atI ds i = some d) : ED K (tOp (rIx K) (tVar k) tb) δ d := fun B0 H0 B H σ Q S q => by
  obtain ⟨p, vs, a1, _⟩ := S.slotOwn ha
  refine ⟨_, a1, hb B0 H0 B H σ _ S fun w B2 H2 s2 c => ?_⟩
  cases Dp.int_inv c
  obtain ⟨p', vs', b1, b2, b3, b4, b5⟩ := (S.step s2).slotOwn ha
  rw [a1] at b1; cases b1
  obtain ⟨v, e1, e2⟩ := atI_dp b5 e
  exact .inl ⟨_, _, i, v, rfl, rfl, .inl (.inl b2), e1, q v B2 H2 s2 e2⟩
theorem sz_small {n : Nat} (h : n ≤ 100000) : n ≤ sizeLine := Nat.le_trans h (by decide)
theorem ea_nil : EA K tNil δ [] := fun B0 H0 B H σ Q S q => q [] B H (.refl S.hist.bh) .nil
theorem ea_cons {tr : TA} (ha : ED K ta δ d) (hr : EA K tr δ ds) : EA K (tCons ta tr) δ (d :: ds) := fun B0 H0 B H σ Q S q =>
  ha B0 H0 B H σ _ S fun v B1 H1 s1 a => hr B0 H0 B1 H1 σ _ (S.step s1) fun vs B2 H2 s2 b => q _ B2 H2 (s1.trans s2) (.cons (Dp.up s2.bb _ _ a) b)
theorem ed_tup {ta : TA} (h : EA K ta δ ds) (hl : ds.length ≤ sizeLine) : ED K (tTup ta) δ (.tuple ds) := fun B0 H0 B H σ Q S q =>
  h B0 H0 B H σ _ S fun vs B1 H1 s1 a => ⟨by rw [a.len]; exact hl, fun p hp =>
    q (.ref p) (upd B1 p (.tup vs)) _ (s1.trans (.new s1.bh hp)) (.tup (.inl (.inl upd_same)) (DpAll.up (same_new (s1.bh.free hp)) _ _ a))⟩
theorem en_lst {ta : TA} (h : EA K ta δ ds) (hl : ds.length ≤ sizeLine) : EN K (tLst ta) δ ds := fun B0 H0 B H σ Q S q =>
  h B0 H0 B H σ _ S fun vs B1 H1 s1 a => ⟨by rw [a.len]; exact hl, fun p hp =>
    q p vs B1 _ (s1.trans (.newOwn s1.bh hp)) (s1.hh.free hp) (s1.bh.free hp) upd_same a⟩
/-- the promise of a def over data -/
def spD (K : PySem.W.Frag) (R : List D → D → Prop) : Sp := fun vs H Q _ => ∃ B ds d, R ds d ∧ Same B H ∧ DpAll K B vs ds ∧ ∀ v B' H', Stp B H B' H' → Dp K B' v d → Q v H'
theorem ed_call {ta : TA} {R : List D → D → Prop} {E : XK} (h : EA K ta δ ds) (r : R ds d) : ED K (tCall (spD K R) [] E ta) δ d := fun B0 H0 B H σ Q S q =>
  h B0 H0 B H σ _ S fun vs B1 H1 s1 a => ⟨B1, ds, d, r, s1.bh, by rw [List.append_nil]; exact a, fun v B' H' s2 b => q v B' H' (s1.trans s2) b⟩
/-! ### tests -/
theorem et_test {b : Bool} (h : ED K te δ (.bool b)) : ET K (tTest te) δ b := fun B0 H0 B H σ Q S q =>
  h B0 H0 B H σ _ S fun v B1 H1 s1 a => by
    cases Dp.bool_inv a
    exact ⟨b, rfl, q B1 H1 s1⟩
theorem et_B {b : Bool} (h : ED K te δ (.bool b)) : ET K (tB te) δ b := fun B0 H0 B H σ Q S q =>
  h B0 H0 B H σ _ S fun v B1 H1 s1 a => by
    cases Dp.bool_inv a
    exact ⟨b, rfl, q B1 H1 s1⟩
theorem et_and {a b : Bool} (h1 : ET K t δ a) (h2 : a = true → ET K u δ b) : ET K (tAnd t u) δ (a && b) := fun B0 H0 B H σ Q S q => h1 B0 H0 B H σ _ S fun B1 H1 s1 => by
  cases a with
  | true => exact iteT (h2 rfl B0 H0 B1 H1 σ _ (S.step s1) fun B2 H2 s2 => q B2 H2 (s1.trans s2))
  | false => exact iteF (q B1 H1 s1)
theorem et_or {a b : Bool} (h1 : ET K t δ a) (h2 : a = false → ET K u δ b) : ET K (tOr t u) δ (a || b) := fun B0 H0 B H σ Q S q => h1 B0 H0 B H σ _ S fun B1 H1 s1 => by
  cases a with
  | false => exact iteF (h2 rfl B0 H0 B1 H1 σ _ (S.step s1) fun B2 H2 s2 => q B2 H2 (s1.trans s2))
  | true => exact iteT (q B1 H1 s1)
theorem et_not {a : Bool} (h1 : ET K t δ a) : ET K (tNot t) δ (!a) := fun B0 H0 B H σ Q S q => h1 B0 H0 B H σ _ S fun B1 H1 s1 => q B1 H1 s1
theorem ed_andV {a b : Bool} (h1 : ED K ta δ (.bool a)) (h2 : a = true → ED K tb δ (.bool b)) : ED K (tAndV ta tb) δ (.bool (a && b)) := fun B0 H0 B H σ Q S q => h1 B0 H0 B H σ _ S fun v B1 H1 s1 c => by
  cases Dp.bool_inv c
  refine ⟨a, rfl, ?_⟩
  cases a with
  | true => exact iteT (h2 rfl B0 H0 B1 H1 σ _ (S.step s1) fun w B2 H2 s2 => q w B2 H2 (s1.trans s2))
  | false => exact iteF (q _ B1 H1 s1 (.bl false))
theorem ed_orV {a b : Bool} (h1 : ED K ta δ (.bool a)) (h2 : a = false → ED K tb δ (.bool b)) : ED K (tOrV ta tb) δ (.bool (a || b)) := fun B0 H0 B H σ Q S q => h1 B0 H0 B H σ _ S fun v B1 H1 s1 c => by
  cases Dp.bool_inv c
  refine ⟨a, rfl, ?_⟩
  cases a with
  | false => exact iteF (h2 rfl B0 H0 B1 H1 σ _ (S.step s1) fun w B2 H2 s2 => q w B2 H2 (s1.trans s2))
  | true => exact iteT (q _ B1 H1 s1 (.bl true))
theorem ed_notV {a : Bool} (h1 : ED K ta δ (.bool a)) : ED K (tNotV ta) δ (.bool (!a)) := fun B0 H0 B H σ Q S q => h1 B0 H0 B H σ _ S fun v B1 H1 s1 c => by
  cases Dp.bool_inv c
  exact ⟨a, rfl, q _ B1 H1 s1 (.bl _)⟩
theorem ed_if {b : Bool} (h : ET K t δ b) (h1 : b = true → ED K ta δ d) (h2 : b = false → ED K tb δ d) : ED K (tIf t ta tb) δ d := fun B0 H0 B H σ Q S q => h B0 H0 B H σ _ S fun B1 H1 s1 => by
  cases b with
  | true => exact iteT (h1 rfl B0 H0 B1 H1 σ _ (S.step s1) fun w B2 H2 s2 => q w B2 H2 (s1.trans s2))
  | false => exact iteF (h2 rfl B0 H0 B1 H1 σ _ (S.step s1) fun w B2 H2 s2 => q w B2 H2 (s1.trans s2))
end
end DX
namespace DX
open PySem L2

/-! ### built-in calls, by name -/
def rAbsQ : List V → Hp → VK → Prop := fun xs H Q => ∃ i, xs = [.int i] ∧ Q (.int (if i < 0 then -i else i)) H
def rMax2Q : List V → Hp → VK → Prop := fun xs H Q => ∃ i j, xs = [.int i, .int j] ∧ Q (.int (if j > i then j else i)) H
def rMin2Q : List V → Hp → VK → Prop := fun xs H Q => ∃ i j, xs = [.int i, .int j] ∧ Q (.int (if j < i then j else i)) H
def rIntQ : List V → Hp → VK → Prop := fun xs H Q => (∃ i, xs = [.int i] ∧ Q (.int i) H) ∨ ∃ k, xs = [.bl k] ∧ Q (.int (if k then 1 else 0)) H
def rListQ (K : PySem.W.Frag) : List V → Hp → VK → Prop := fun xs H Q => ∃ p ys, xs = [.ref p] ∧ (SqL K H p ys ∨ SqT K H p ys) ∧ ∀ l, H l = none → Q (.ref l) (upd H l (.lst ys))
def rTupleQ (K : PySem.W.Frag) : List V → Hp → VK → Prop := fun xs H Q => ∃ p ys, xs = [.ref p] ∧ ((SqL K H p ys ∧ ∀ l, H l = none → Q (.ref l) (upd H l (.tup ys))) ∨ (SqT K H p ys ∧ Q (.ref p) H))
def rLenQ (K : PySem.W.Frag) : List V → Hp → VK → Prop := fun xs H Q => ∃ p ys, xs = [.ref p] ∧ (SqL K H p ys ∨ SqT K H p ys) ∧ Q (.int ys.length) H
section
variable {X : Cx}
theorem cr_lenQ : CallR X (.builtin "len") (rLenQ X.K) := call_len_seq
theorem cr_absQ : CallR X (.builtin "abs") rAbsQ := call_abs
theorem cr_max2 (hc : X.calm = true) : CallR X (.builtin "max") rMax2Q := call_max2 hc
theorem cr_min2 (hc : X.calm = true) : CallR X (.builtin "min") rMin2Q := call_min2 hc
theorem cr_intQ : CallR X (.type "int") rIntQ := call_int1
theorem cr_listQ : CallR X (.type "list") (rListQ X.K) := call_list_of
theorem cr_tupleQ : CallR X (.type "tuple") (rTupleQ X.K) := call_tuple_of
end
def CMulX (i j : Int) : Prop := CMul i j ∨ CMulW i j
section
variable {X : Cx}
theorem op_mulX : OpR X (binaryOp .Mult) (rI CMulX fun i j => .int (i * j)) := opI fun _ _ _ _ _ _ _ hc q => PyProof.Rows.mul_int q (hc.elim (·.ok) (·.ok))
end
/-! ### operators of any size -/
def CDivX (_ j : Int) : Prop := j ≠ 0 ∧ j.natAbs.log2 < 9000
section
variable {X : Cx}
theorem op_fdivX : OpR X (binaryOp .FloorDiv) (rI CDivX fun i j => .int (i.fdiv j)) := opI fun i j _ _ _ _ _ hc q =>
  PyProof.Rows.floordiv_int hc.1 q (.inl (PyProof.noPylong_of_log2 hc.2))
end

section
variable {K : PySem.W.Frag} {δ : List SV} {ta tb te : TE} {t u : TT} {d x y : D} {ds es : List D}
/-! ### built-in calls -/
theorem ed_cb {r : List V → Hp → VK → Prop} {ta : TA} (h : EA K ta δ ds) (hr : ∀ B H vs (Q : VK), Same B H → DpAll K B vs ds → (∀ v B' H', Stp B H B' H' → Dp K B' v d → Q v H') → r vs H Q) : ED K (tCB r ta) δ d := fun B0 H0 B H σ Q S q =>
  h B0 H0 B H σ _ S fun vs B1 H1 s1 a => hr B1 H1 vs Q s1.bh a fun v B' H' s2 b => q v B' H' (s1.trans s2) b
theorem en_cb {r : List V → Hp → VK → Prop} {ta : TA} (h : EA K ta δ ds) (hr : ∀ B H vs (Q : VK), Same B H → DpAll K B vs ds → (∀ p ws, H p = none → DpAll K B ws es → Q (.ref p) (upd H p (.lst ws))) → r vs H Q) : EN K (tCB r ta) δ es := fun B0 H0 B H σ Q S q =>
  h B0 H0 B H σ _ S fun vs B1 H1 s1 a => hr B1 H1 vs Q s1.bh a fun p ws np b => q p ws B1 _ (s1.trans (.newOwn s1.bh np)) (s1.hh.free np) (s1.bh.free np) upd_same b
theorem _root_.L2.DpAll.one {B : Hp} {vs : List V} (h : DpAll K B vs [d]) : ∃ v, vs = [v] ∧ Dp K B v d := by
  cases h with
  | cons h1 h2 => cases h2; exact ⟨_, rfl, h1⟩
theorem _root_.L2.DpAll.two {B : Hp} {vs : List V} (h : DpAll K B vs [x, y]) : ∃ v w, vs = [v, w] ∧ Dp K B v x ∧ Dp K B w y := by
  cases h with
  | cons h1 h2 => cases h2 with
    | cons h2 h3 => cases h3; exact ⟨_, _, rfl, h1, h2⟩
/-- len of list or tuple data -/
def lenD : D → Option Nat
  | .list ds => some ds.length
  | .tuple ds => some ds.length
  | _ => none
def rLenQ0 (K : PySem.W.Frag) : List V → Hp → VK → Prop := fun xs H Q => ∃ p ys, xs = [.ref p] ∧ (SqL K H p ys ∨ SqT K H p ys) ∧ Q (.int ys.length) H
theorem ed_len {n : Nat} (h : ED K te δ x) (e : lenD x = some n) : ED K (tCB (rLenQ K) (tCons te tNil)) δ (.int n) :=
  ed_cb (ea_cons h ea_nil) fun B H vs Q bh a q => by
    obtain ⟨v, rfl, b⟩ := a.one
    cases b with
    | lst hs hA =>
      cases e
      exact ⟨_, _, rfl, .inl (bh.seq hs), q _ B H (.refl bh) (by rw [hA.len]; exact .int _)⟩
    | tup hs hA =>
      cases e
      exact ⟨_, _, rfl, .inr (sqT_up bh hs), q _ B H (.refl bh) (by rw [hA.len]; exact .int _)⟩
    | _ => cases e
theorem ed_lenOwn {k : Nat} (e : δ[k]? = some (.own ds)) : ED K (tCB (rLenQ K) (tCons (tVar k) tNil)) δ (.int ds.length) := fun B0 H0 B H σ Q S q => by
  obtain ⟨p, vs, a, b, c, c', d⟩ := S.slotOwn e
  exact ⟨_, a, p, vs, rfl, .inl (.inl (.inl b)), q _ B H (.refl S.hist.bh) (by rw [d.len]; exact .int _)⟩
theorem ed_abs {i : Int} (h : ED K te δ (.int i)) : ED K (tCB rAbsQ (tCons te tNil)) δ (.int i.natAbs) :=
  ed_cb (ea_cons h ea_nil) fun B H vs Q bh a q => by
    obtain ⟨v, rfl, b⟩ := a.one
    cases Dp.int_inv b
    refine ⟨i, rfl, q _ B H (.refl bh) ?_⟩
    have e : (if i < 0 then -i else i) = (i.natAbs : Int) := by split <;> omega
    rw [e]; exact .int _
theorem ed_max2 {i j : Int} (h : ED K ta δ (.int i)) (h' : ED K tb δ (.int j)) : ED K (tCB rMax2Q (tCons ta (tCons tb tNil))) δ (.int (max i j)) :=
  ed_cb (ea_cons h (ea_cons h' ea_nil)) fun B H vs Q bh a q => by
    obtain ⟨v, w, rfl, b, c⟩ := a.two
    cases Dp.int_inv b; cases Dp.int_inv c
    refine ⟨i, j, rfl, q _ B H (.refl bh) ?_⟩
    have e : (if j > i then j else i) = max i j := by split <;> omega
    rw [e]; exact .int _
theorem ed_min2 {i j : Int} (h : ED K ta δ (.int i)) (h' : ED K tb δ (.int j)) : ED K (tCB rMin2Q (tCons ta (tCons tb tNil))) δ (.int (min i j)) :=
  ed_cb (ea_cons h (ea_cons h' ea_nil)) fun B H vs Q bh a q => by
    obtain ⟨v, w, rfl, b, c⟩ := a.two
    cases Dp.int_inv b; cases Dp.int_inv c
    refine ⟨i, j, rfl, q _ B H (.refl bh) ?_⟩
    have e : (if j < i then j else i) = min i j := by split <;> omega
    rw [e]; exact .int _
/-- int(n), int(flag) -/
def intD : D → Option Int
  | .int i => some i
  | .bool b => some (if b then 1 else 0)
  | _ => none
theorem ed_int1 {i : Int} (h : ED K te δ x) (e : intD x = some i) : ED K (tCB rIntQ (tCons te tNil)) δ (.int i) :=
  ed_cb (ea_cons h ea_nil) fun B H vs Q bh a q => by
    obtain ⟨v, rfl, b⟩ := a.one
    cases b with
    | int j => cases e; exact .inl ⟨_, rfl, q _ B H (.refl bh) (.int _)⟩
    | bl c => cases e; exact .inr ⟨_, rfl, q _ B H (.refl bh) (.int _)⟩
    | _ => cases e
theorem ed_gcd {i j : Int} (h : ED K ta δ (.int i)) (h' : ED K tb δ (.int j)) : ED K (tCB rGcd (tCons ta (tCons tb tNil))) δ (.int (Nat.gcd i.natAbs j.natAbs : Nat)) :=
  ed_cb (ea_cons h (ea_cons h' ea_nil)) fun B H vs Q bh a q => by
    obtain ⟨v, w, rfl, b, c⟩ := a.two
    cases Dp.int_inv b; cases Dp.int_inv c
    exact ⟨i, j, rfl, q _ B H (.refl bh) (.int _)⟩
end
/-- math.lcm of two ints -/
def rLcm : List V → Hp → VK → Prop := fun vs H Q => ∃ a b : Int, vs = [.int a, .int b] ∧ (a.natAbs < 2 ^ 13000 ∧ b.natAbs < 2 ^ 13000) ∧ Q (.int ((Nat.lcm a.natAbs b.natAbs : Nat) : Int)) H
theorem lcm_le (a b : Nat) : Nat.lcm a b ≤ a * b := by
  unfold Nat.lcm
  exact Nat.div_le_self _ _
theorem lt_of_log {n k : Nat} (h : n < 2 ^ k) (h0 : 0 < k) : n.log2 < k := PySem.Flt.log2_lt_of h0 (by simpa using h)
theorem cr_lcm {X : Cx} : CallR X (.builtin "math.lcm") rLcm := by
  intro pins s σ H vs us Q I r h
  obtain ⟨a, b, rfl, ⟨ha, hb⟩, q⟩ := h
  obtain ⟨t, u, rfl⟩ := Vals.int2 r
  have e1 : (Nat.lcm 1 a.natAbs).lcm b.natAbs = Nat.lcm a.natAbs b.natAbs := by rw [Nat.lcm_one_left]
  have h1 : (max 1 a.natAbs).log2 < 13000 := lt_of_log (by have := Nat.one_lt_two_pow (n := 13000) (by decide); omega) (by decide)
  have h2 : (max a.natAbs b.natAbs).log2 < 13000 := lt_of_log (by omega) (by decide)
  have h3 : (((Nat.lcm 1 a.natAbs).lcm b.natAbs : Nat) : Int).natAbs < 2 ^ 26000 := by
    rw [e1]
    show Nat.lcm a.natAbs b.natAbs < 2 ^ 26000
    refine Nat.lt_of_le_of_lt (lcm_le _ _) ?_
    rw [show (26000 : Nat) = 13000 + 13000 from rfl, Nat.pow_add]
    exact Nat.mul_lt_mul'' ha hb
  have h4 : (((Nat.lcm 1 a.natAbs).lcm b.natAbs : Nat) : Int).natAbs.log2 < bitsLine := Nat.lt_of_lt_of_le (lt_of_log h3 (by decide)) (by decide)
  refine PySem.call_function_meets PySem.W.MGF.kind_lcm PySem.W.MGF.plain_lcm PySem.W.MGF.entry_lcm (PySem.W.MGF.args_lcm _ _) (PySem.W.mg_run_lcm a t b u (by omega) (by omega) h4).meets ?_
  rw [e1]
  exact ⟨.int _, H, I.tok _, ⟨_, rfl⟩, q⟩
section
variable {K : PySem.W.Frag} {δ : List SV} {ta tb te : TE} {t u : TT} {d x y : D} {ds es : List D}
theorem ed_lcm {i j : Int} (h : ED K ta δ (.int i)) (h' : ED K tb δ (.int j)) (hi : i.natAbs < 2 ^ 13000) (hj : j.natAbs < 2 ^ 13000) : ED K (tCB rLcm (tCons ta (tCons tb tNil))) δ (.int (Nat.lcm i.natAbs j.natAbs : Nat)) :=
  ed_cb (ea_cons h (ea_cons h' ea_nil)) fun B H vs Q bh a q => by
    obtain ⟨v, w, rfl, b, c⟩ := a.two
    cases Dp.int_inv b; cases Dp.int_inv c
    exact ⟨i, j, rfl, ⟨hi, hj⟩, q _ B H (.refl bh) (.int _)⟩
/-- the items of list or tuple data -/
def itemsD : D → Option (List D)
  | .list ds => some ds
  | .tuple ds => some ds
  | _ => none
theorem en_list (h : ED K te δ x) (e : itemsD x = some ds) : EN K (tCB (rListQ K) (tCons te tNil)) δ ds :=
  en_cb (ea_cons h ea_nil) fun B H vs Q bh a q => by
    obtain ⟨v, rfl, b⟩ := a.one
    cases b with
    | lst hs hA => cases e; exact ⟨_, _, rfl, .inl (bh.seq hs), fun l hl => q l _ hl hA⟩
    | tup hs hA => cases e; exact ⟨_, _, rfl, .inr (sqT_up bh hs), fun l hl => q l _ hl hA⟩
    | _ => cases e
theorem en_listOwn {k : Nat} (e : δ[k]? = some (.own ds)) : EN K (tCB (rListQ K) (tCons (tVar k) tNil)) δ ds := fun B0 H0 B H σ Q S q => by
  obtain ⟨p, vs, a, b, c, c', d⟩ := S.slotOwn e
  exact ⟨_, a, p, vs, rfl, .inl (.inl (.inl b)), fun l hl => q l _ B _ (.newOwn S.hist.bh hl) hl (S.hist.bh.free hl) upd_same d⟩
/-- tuple(x) -/
theorem ed_tupleOf (h : ED K te δ x) (e : itemsD x = some ds) : ED K (tCB (rTupleQ K) (tCons te tNil)) δ (.tuple ds) :=
  ed_cb (ea_cons h ea_nil) fun B H vs Q bh a q => by
    obtain ⟨v, rfl, b⟩ := a.one
    cases b with
    | lst hs hA =>
      cases e
      exact ⟨_, _, rfl, .inl ⟨bh.seq hs, fun l hl => q _ (upd B l _) _ (.new bh hl) (.tup (.inl (.inl upd_same)) (DpAll.up (same_new (bh.free hl)) _ _ hA))⟩⟩
    | tup hs hA => cases e; exact ⟨_, _, rfl, .inr ⟨sqT_up bh hs, q _ B H (.refl bh) (.tup hs hA)⟩⟩
    | _ => cases e
/-- sum of ints, all and any of bools -/
theorem ed_sum {ns : List Int} (h : ED K te δ (.list (ns.map PyData.int))) : ED K (tCB (rSum K) (tCons te tNil)) δ (.int ns.sum) :=
  ed_cb (ea_cons h ea_nil) fun B H vs Q bh a q => by
    obtain ⟨v, rfl, b⟩ := a.one
    cases b with
    | lst hs hA => cases hA.ints; exact ⟨_, ns, rfl, bh.seq hs, q _ B H (.refl bh) (.int _)⟩
theorem ed_all {bs : List Bool} (h : ED K te δ (.list (bs.map PyData.bool))) : ED K (tCB (rAll K) (tCons te tNil)) δ (.bool (bs.all id)) :=
  ed_cb (ea_cons h ea_nil) fun B H vs Q bh a q => by
    obtain ⟨v, rfl, b⟩ := a.one
    cases b with
    | lst hs hA => cases hA.bools; exact ⟨_, bs, rfl, bh.seq hs, q _ B H (.refl bh) (.bl _)⟩
theorem ed_any {bs : List Bool} (h : ED K te δ (.list (bs.map PyData.bool))) : ED K (tCB (rAny K) (tCons te tNil)) δ (.bool (bs.any id)) :=
  ed_cb (ea_cons h ea_nil) fun B H vs Q bh a q => by
    obtain ⟨v, rfl, b⟩ := a.one
    cases b with
    | lst hs hA => cases hA.bools; exact ⟨_, bs, rfl, bh.seq hs, q _ B H (.refl bh) (.bl _)⟩
/-- isinstance of data, a built-in class -/
def tyName : D → String
  | .none => "NoneType"
  | .bool _ => "bool"
  | .int _ => "int"
  | .str _ => "str"
  | .list _ => "list"
  | .tuple _ => "tuple"
  | .dict _ => "dict"
theorem tyx_of {B H : Hp} {v : V} (bh : Same B H) (h : Dp K B v d) : TyX K H v (.type (tyName d)) := by
  cases h with
  | non => exact .base .non
  | bl b => exact .base (.bl b)
  | int i => exact .base (.int i)
  | str x => exact .base (.str x)
  | lst hs _ =>
    rcases hs with (h | ⟨o, h⟩) | ⟨o, its, n, h1, h2, _⟩
    · exact .base (.lst (bh _ _ h))
    · exact .base (.frz (bh _ _ h))
    · exact .kList h1 h2
  | tup hs _ =>
    rcases hs with (h | ⟨o, h⟩) | ⟨o, its, n, h1, h2, _⟩
    · exact .base (.tup (bh _ _ h))
    · exact .fTuple (bh _ _ h)
    · exact .kTuple h1 h2
theorem ed_isi {n : String} {b : Bool} (h : ED K te δ d) (e : kitB (tyName d) n = some b) : ED K (tCB (rIsi K) (tCons te (tCons (tC (.ty n)) tNil))) δ (.bool b) := fun B0 H0 B H σ Q S q =>
  h B0 H0 B H σ _ S fun v B1 H1 s1 a => ⟨v, .ty n, _, _, b, rfl, .ty n, tyx_of s1.bh a, kit_ty e, q _ B1 H1 s1 (.bl b)⟩
/-! ### new lists -/
theorem en_cat (ha : EN K ta δ ds) (hb : EN K tb δ es) (hl : ds.length + es.length ≤ sizeLine) : EN K (tOp rCat ta tb) δ (ds ++ es) := fun B0 H0 B H σ Q S q =>
  ha B0 H0 B H σ _ S fun p vs B1 H1 s1 n1 b1 e1 a1 => hb B0 H0 B1 H1 σ _ (S.step s1) fun p2 ws B2 H2 s2 n2 b2 e2 a2 =>
    ⟨p, p2, vs, ws, rfl, rfl, s2.hh _ _ e1, e2, by rw [a1.len, a2.len]; exact hl, fun l hl => q l _ B2 _ ((s1.trans s2).trans (.newOwn s2.bh hl)) ((s1.trans s2).hh.free hl) (s2.bh.free hl) upd_same ((DpAll.up s2.bb _ _ a1).app a2)⟩
theorem dpall_rep {B : Hp} {vs : List V} (h : DpAll K B vs ds) : ∀ n : Nat, DpAll K B (List.replicate n vs).flatten (List.replicate n ds).flatten
  | 0 => .nil
  | n + 1 => by
    rw [List.replicate_succ, List.replicate_succ, List.flatten_cons, List.flatten_cons]
    exact h.app (dpall_rep h n)
theorem en_rep {k : Int} (ha : EN K ta δ ds) (hb : ED K tb δ (.int k)) (h1 : -(2 ^ 63) ≤ k ∧ k < 2 ^ 63) (hl : ds.length * k.toNat ≤ sizeLine) : EN K (tOp rRep ta tb) δ (List.replicate k.toNat ds).flatten := fun B0 H0 B H σ Q S q =>
  ha B0 H0 B H σ _ S fun p vs B1 H1 s1 n1 b1 e1 a1 => hb B0 H0 B1 H1 σ _ (S.step s1) fun w B2 H2 s2 c => by
    cases Dp.int_inv c
    exact ⟨p, k, vs, rfl, rfl, s2.hh _ _ e1, h1.1, h1.2, by rw [a1.len]; exact hl, fun l hl => q l _ B2 _ ((s1.trans s2).trans (.newOwn s2.bh hl)) ((s1.trans s2).hh.free hl) (s2.bh.free hl) upd_same (dpall_rep (DpAll.up s2.bb _ _ a1) _)⟩
theorem dpall_rev {B : Hp} : ∀ {ds : List D} {vs : List V}, DpAll K B vs ds → DpAll K B vs.reverse ds.reverse
  | [], _, h => by cases h; exact .nil
  | d :: ds, _, h => by
    cases h with
    | cons h1 h2 =>
      rw [List.reverse_cons, List.reverse_cons]
      exact (dpall_rev h2).app (.cons h1 .nil)
/-- xs[a:b] of a list -/
def cutD (ds : List D) (lo hi : Option Int) : List D := (ds.drop (HT.sIx ds.length 0 lo)).take (HT.sIx ds.length ds.length hi - HT.sIx ds.length 0 lo)
theorem eo_none : EO K tNoPart δ none := fun B0 H0 B H σ Q S q => q B H (.refl S.hist.bh)
theorem eo_some {i : Int} (h : ED K te δ (.int i)) : EO K (tPart te) δ (some i) := fun B0 H0 B H σ Q S q => h B0 H0 B H σ _ S fun v B1 H1 s1 a => by
  cases Dp.int_inv a
  exact ⟨i, rfl, q B1 H1 s1⟩
theorem en_slice {tl th : TO} {lo hi : Option Int} (h : ED K te δ (.list ds)) (h1 : EO K tl δ lo) (h2 : EO K th δ hi) : EN K (tSl (rSlL K) te tl th) δ (cutD ds lo hi) := fun B0 H0 B H σ Q S q =>
  h B0 H0 B H σ _ S fun v B1 H1 s1 a => h1 B0 H0 B1 H1 σ _ (S.step s1) fun B2 H2 s2 => h2 B0 H0 B2 H2 σ _ ((S.step s1).step s2) fun B3 H3 s3 => by
    cases a with
    | lst hs hA =>
      have st := (s1.trans s2).trans s3
      refine ⟨_, _, rfl, ((s2.trans s3).bb.trans s3.bh).seq hs, fun p hp => q p _ B3 _ (st.trans (.newOwn s3.bh hp)) (st.hh.free hp) (s3.bh.free hp) upd_same ?_⟩
      unfold cutV cutD
      rw [hA.len]
      exact (DpAll.up (s2.trans s3).bb _ _ hA).drop _ |>.take _

/-! ### what is walked -/
/-- from B1 on the walk yields ds -/
def YD (K : PySem.W.Frag) (J : It) (B1 : Hp) (ds : List D) : Prop := ∀ (B H : Hp) (i : Nat), Same B1 B → Same B H →
  (i < ds.length → J.go i H ∧ ∀ x H', J.yld i H x H' → ∃ B' d, Stp B H B' H' ∧ ds[i]? = some d ∧ Dp K B' x d) ∧ (i = ds.length → J.stop i H)
def EI (K : PySem.W.Frag) (wi : TI) (δ : List SV) (ds : List D) : Prop := ∀ (B0 H0 B H : Hp) (σ : L2.St) (R : It → Hp → Prop), Sd K B0 H0 B H σ δ → (∀ J B1 H1, Stp B H B1 H1 → YD K J B1 ds → R J H1) → wi σ H R
theorem ei_list (h : ED K te δ (.list ds)) : EI K (iList K te) δ ds := fun B0 H0 B H σ R S q => h B0 H0 B H σ _ S fun v B1 H1 s1 a => by
  cases a with
  | lst hs hA =>
    refine ⟨_, rfl, ⟨_, s1.bh.seq hs⟩, q _ B1 H1 s1 fun B H i e1 e2 => ⟨fun hi => ?_, fun hi => ?_⟩⟩
    · obtain ⟨v, g1, g2⟩ := hA.get (List.getElem?_eq_getElem hi)
      refine ⟨⟨_, v, (e1.trans e2).seq hs, g1⟩, fun x H' y => ?_⟩
      obtain ⟨rfl, y⟩ := y
      have ex := (y _ ((e1.trans e2).seq hs)).symm.trans g1
      cases ex
      exact ⟨B, _, .refl e2, List.getElem?_eq_getElem hi, Dp.up e1 _ _ g2⟩
    · exact ⟨_, (e1.trans e2).seq hs, by rw [hA.len, hi]; exact Nat.le_refl _⟩
theorem ei_tup (h : ED K te δ (.tuple ds)) : EI K (iTup K te) δ ds := fun B0 H0 B H σ R S q => h B0 H0 B H σ _ S fun v B1 H1 s1 a => by
  cases a with
  | tup hs hA =>
    refine ⟨_, rfl, ⟨_, sqT_up s1.bh hs⟩, q _ B1 H1 s1 fun B H i e1 e2 => ⟨fun hi => ?_, fun hi => ?_⟩⟩
    · obtain ⟨v, g1, g2⟩ := hA.get (List.getElem?_eq_getElem hi)
      refine ⟨⟨_, v, sqT_up (e1.trans e2) hs, g1⟩, fun x H' y => ?_⟩
      obtain ⟨rfl, y⟩ := y
      have ex := (y _ (sqT_up (e1.trans e2) hs)).symm.trans g1
      cases ex
      exact ⟨B, _, .refl e2, List.getElem?_eq_getElem hi, Dp.up e1 _ _ g2⟩
    · exact ⟨_, sqT_up (e1.trans e2) hs, by rw [hA.len, hi]; exact Nat.le_refl _⟩
/-- 0, 1, .. below n -/
def rngD (lo : Int) (n : Nat) : List D := (List.range n).map fun k => PyData.int (lo + (k : Nat))
theorem yd_rng {lo : Int} {n : Nat} {B1 : Hp} : YD K (Itr lo n) B1 (rngD lo n) := fun B H i e1 e2 => by
  have hl : (rngD lo n).length = n := by unfold rngD; simp
  refine ⟨fun hi => ⟨by rw [hl] at hi; exact hi, fun x H' y => ?_⟩, fun hi => by rw [hl] at hi; show n ≤ i; omega⟩
  obtain ⟨rfl, rfl⟩ := y
  rw [hl] at hi
  refine ⟨B, .int (lo + i), .refl e2, ?_, .int _⟩
  unfold rngD
  simp [hi]
theorem ei_rng1 {n : Int} (h : ED K te δ (.int n)) (hn : -(2 ^ 62) ≤ n ∧ n < 2 ^ 62) : EI K (iRng1 (tCons te tNil)) δ (rngD 0 n.toNat) := fun B0 H0 B H σ R S q => h B0 H0 B H σ _ S fun v B1 H1 s1 a => by
  cases Dp.int_inv a
  exact ⟨n, rfl, hn.1, hn.2, q _ B1 H1 s1 yd_rng⟩
theorem ei_rng2 {m n : Int} (h : ED K ta δ (.int m)) (h' : ED K tb δ (.int n)) (hn : -(2 ^ 62) ≤ m ∧ m < 2 ^ 62 ∧ -(2 ^ 62) ≤ n ∧ n < 2 ^ 62) : EI K (iRng2 (tCons ta (tCons tb tNil))) δ (rngD m (n - m).toNat) := fun B0 H0 B H σ R S q =>
  h B0 H0 B H σ _ S fun v B1 H1 s1 a => h' B0 H0 B1 H1 σ _ (S.step s1) fun w B2 H2 s2 b => by
  cases Dp.int_inv a; cases Dp.int_inv b
  exact ⟨m, n, rfl, hn, q _ B2 H2 (s1.trans s2) yd_rng⟩

/-! ### comprehensions -/
theorem wipe_gName {σ : L2.St} {i : Nat} {x : Option V} : wipe ((wipe σ [i]).set i x) [i] = wipe σ [i] := by
  show (((σ.set i none).set i x).set i none) = σ.set i none
  rw [List.set_set, List.set_set]
theorem map_take_succ {α β : Type} {f : α → β} {p : α → Bool} {xs : List α} {i : Nat} {x : α} (h : xs[i]? = some x) : ((xs.take (i + 1)).filter p).map f = ((xs.take i).filter p).map f ++ (if p x then [f x] else []) := by
  rw [List.take_add_one, h, List.filter_append, List.map_append]
  cases e : p x <;> simp [e]
theorem en_lcG {α : Type} {xs : List α} {g : α → D} {wi : TI} {tt : TT} {i : Nat} {p : α → Bool} {f : α → D} (hw : EI K wi δ (xs.map g)) (hl : xs.length ≤ sizeLine)
    (ht : ∀ x, x ∈ xs → ET K tt ((δ.set i .no).set i (.val (g x))) (p x)) (he : ∀ x, x ∈ xs → p x = true → ED K te ((δ.set i .no).set i (.val (g x))) (f x)) : EN K (tLc wi (gName i) tt te [i]) δ ((xs.filter p).map f) := fun B0 H0 B H σ Q S q =>
  hw B0 H0 B H σ _ S fun J B1 H1 s1 yd L nL => by
    have S1 := S.step s1
    refine ⟨fun k m H' => m = xs.length - k ∧ k ≤ xs.length ∧ ∃ B' acc, Sd K B1 H0 B' H' σ δ ∧ B' L = none ∧ H' L = some (.lst acc) ∧ DpAll K B' acc (((xs.take k).filter p).map f) ∧ Stp B1 H1 B' H', ⟨_, rfl, Nat.zero_le _, B1, [], ?_, s1.bh.free nL, upd_same, ?_, .newOwn s1.bh nL⟩, ?_⟩
    · exact (S1.past S1.hist.bb (Same.refl _)).step (.newOwn s1.bh nL)
    · rw [List.take_zero]; exact .nil
    rintro k m H' ⟨rfl, hk, B', acc, S', bL, hL, hA, sp⟩
    obtain ⟨y1, y2⟩ := yd B' H' k S'.hist.bb S'.hist.bh
    by_cases hlt : k < xs.length
    · obtain ⟨go, yy⟩ := y1 (by rw [List.length_map]; exact hlt)
      refine .inr ⟨go, fun H'' => ∃ B'' acc, Sd K B1 H0 B'' H'' σ δ ∧ B'' L = none ∧ H'' L = some (.lst acc) ∧ DpAll K B'' acc (((xs.take (k + 1)).filter p).map f) ∧ Stp B1 H1 B'' H'', fun H'' z => ⟨xs.length - (k + 1), by omega, rfl, hlt, z⟩, fun x H2 yl => ?_⟩
      obtain ⟨B2, d', s2, ed', dp⟩ := yy x H2 yl
      have ed : xs[k]? = some xs[k] := List.getElem?_eq_getElem hlt
      have eg : d' = g xs[k] := by
        rw [List.getElem?_map, ed] at ed'
        exact (Option.some.inj ed').symm
      subst eg
      have hm : xs[k] ∈ xs := List.getElem_mem hlt
      have hLne : H' L ≠ none := by rw [hL]; exact fun z => nomatch z
      have S2 := S'.step s2
      have S3 : Sd K B1 H0 B2 H2 ((wipe σ [i]).set i (some x)) ((δ.set i .no).set i (.val (g xs[k]))) := (S2.forget (i := i) (o := none)).setVal dp
      refine ⟨wipe_gName, ht xs[k] hm B1 H0 B2 H2 _ _ S3 fun B3 H3 s3 => ?_⟩
      cases e : p xs[k] with
      | true =>
        refine iteT (he xs[k] hm e B1 H0 B3 H3 _ _ (S3.step s3) fun v B4 H4 s4 dv => ?_)
        have st := (s2.trans s3).trans s4
        have hL4 : H4 L = some (.lst acc) := st.hh _ _ hL
        have bL4 : B4 L = none := st.fr L hLne bL
        have hA4 := DpAll.up st.bb _ _ hA
        refine ⟨acc, hL4, ?_, B4, acc ++ [v], ?_, bL4, upd_same, ?_, ?_⟩
        · have h1 := hA.len
          have h2 : (((xs.take k).filter p).map f).length ≤ k := by
            rw [List.length_map]
            exact Nat.le_trans (List.length_filter_le _ _) (by rw [List.length_take]; omega)
          omega
        · have S4 := (S'.step st)
          refine ⟨⟨S4.hist.bb, fun a o ea => ?_, fun a o ea => ?_, S4.hist.fr⟩, S4.len, fun j z ej => ?_, S4.apart⟩
          · have : a ≠ L := fun z => by subst z; rw [bL4] at ea; cases ea
            rw [upd_ne this]; exact S4.hist.bh _ _ ea
          · have : a ≠ L := fun z => by
              subst z
              have := S1.hist.hh _ _ ea
              rw [nL] at this; cases this
            rw [upd_ne this]; exact S4.hist.hh _ _ ea
          · obtain ⟨o, eo, ok⟩ := S4.ok j z ej
            refine ⟨o, eo, ?_⟩
            cases z with
            | no => exact True.intro
            | val d => exact ok
            | own es =>
              obtain ⟨pp, vs, e1, e2, e3, e4, e5⟩ := ok
              have hne : pp ≠ L := fun z => by
                subst z
                obtain ⟨o', eo', ok'⟩ := S1.ok j _ ej
                obtain ⟨pp', vs', f1, f2, _⟩ := ok'
                rw [eo] at eo'; cases eo'
                rw [e1] at f1; cases f1
                rw [nL] at f2; cases f2
              exact ⟨pp, vs, e1, by rw [upd_ne hne]; exact e2, e3, e4, e5⟩
        · rw [map_take_succ ed, if_pos e]
          exact hA4.app (.cons dv .nil)
        · have sq := sp.trans st
          refine ⟨sq.bb, fun a o ea => ?_, fun a o ea => ?_, sq.fr⟩
          · have : a ≠ L := fun z => by subst z; rw [bL4] at ea; cases ea
            rw [upd_ne this]; exact sq.bh _ _ ea
          · have : a ≠ L := fun z => by subst z; rw [nL] at ea; cases ea
            rw [upd_ne this]; exact sq.hh _ _ ea
      | false =>
        refine iteF ⟨B3, acc, S'.step (s2.trans s3), (s2.trans s3).fr L hLne bL, (s2.trans s3).hh _ _ hL, ?_, sp.trans (s2.trans s3)⟩
        rw [map_take_succ ed, e, if_neg Bool.false_ne_true, List.append_nil]
        exact DpAll.up (s2.trans s3).bb _ _ hA
    · have e : k = xs.length := by omega
      subst e
      rw [List.take_length] at hA
      exact .inl ⟨y2 (by rw [List.length_map]), q L acc B' H' (s1.trans sp) (s1.hh.free nL) bL hL hA⟩
theorem et_yes {δ : List SV} : ET K tYes δ true := fun B0 H0 B H σ Q S q => q B H (.refl S.hist.bh)
theorem en_lc1 {α : Type} {xs : List α} {g : α → D} {wi : TI} {i : Nat} {f : α → D} (hw : EI K wi δ (xs.map g)) (hl : xs.length ≤ sizeLine)
    (he : ∀ x, x ∈ xs → ED K te ((δ.set i .no).set i (.val (g x))) (f x)) : EN K (tLc wi (gName i) tYes te [i]) δ (xs.map f) := by
  have := en_lcG (p := fun _ => true) (f := f) hw hl (fun _ _ => et_yes) fun d hd _ => he d hd
  rwa [List.filter_eq_self.mpr (fun _ _ => rfl)] at this
theorem ED.of {d' : D} (h : ED K te δ d) (e : d = d') : ED K te δ d' := e ▸ h
theorem EN.of (h : EN K te δ ds) (e : ds = es) : EN K te δ es := e ▸ h
theorem ET.of {b b' : Bool} (h : ET K t δ b) (e : b = b') : ET K t δ b' := e ▸ h
theorem EI.of {wi : TI} (h : EI K wi δ ds) (e : ds = es) : EI K wi δ es := e ▸ h
/-- x is b, x is not b: bools -/
theorem ed_isB {a b : Bool} (h : ED K ta δ (.bool a)) (h' : ED K tb δ (.bool b)) : ED K (tOp rIsB ta tb) δ (.bool (decide (a = b))) := fun B0 H0 B H σ Q S q =>
  h B0 H0 B H σ _ S fun v B1 H1 s1 c => h' B0 H0 B1 H1 σ _ (S.step s1) fun w B2 H2 s2 d => by
    cases Dp.bool_inv c; cases Dp.bool_inv d
    exact ⟨a, b, rfl, rfl, q _ B2 H2 (s1.trans s2) (.bl _)⟩
theorem ed_notB {a b : Bool} (h : ED K ta δ (.bool a)) (h' : ED K tb δ (.bool b)) : ED K (tOp rNotB ta tb) δ (.bool (!decide (a = b))) := fun B0 H0 B H σ Q S q =>
  h B0 H0 B H σ _ S fun v B1 H1 s1 c => h' B0 H0 B1 H1 σ _ (S.step s1) fun w B2 H2 s2 d => by
    cases Dp.bool_inv c; cases Dp.bool_inv d
    exact ⟨a, b, rfl, rfl, q _ B2 H2 (s1.trans s2) (.bl _)⟩
/-- xs[::-1] -/
theorem en_rev (h : ED K te δ (.list ds)) : EN K (tRevL K te) δ ds.reverse := fun B0 H0 B H σ Q S q => h B0 H0 B H σ _ S fun v B1 H1 s1 a => by
  cases a with
  | lst hs hA => exact ⟨_, _, rfl, s1.bh.seq hs, fun p hp => q p _ B1 _ (s1.trans (.newOwn s1.bh hp)) (s1.hh.free hp) (s1.bh.free hp) upd_same (dpall_rev hA)⟩
end
end DX
namespace DX
open PySem L2

/-! ### statements -/
structure EndsD where
  nx : List SV → Prop
  rt : D → Prop
  bk : List SV → Prop := fun _ => False
  ct : List SV → Prop := fun _ => False
structure Lift (K : PySem.W.Frag) (B0 H0 : Hp) (E : EndsD) (D : Ends) : Prop where
  nx : ∀ σ H B δ, Sd K B0 H0 B H σ δ → E.nx δ → D.nx σ H
  rt : ∀ v B H d, Hist B0 H0 B H → Dp K B v d → E.rt d → D.rt v H
  bk : ∀ σ H B δ, Sd K B0 H0 B H σ δ → E.bk δ → D.bk σ H
  ct : ∀ σ H B δ, Sd K B0 H0 B H σ δ → E.ct δ → D.ct σ H
def WP (K : PySem.W.Frag) (ts : TS) (E : EndsD) (δ : List SV) : Prop := ∀ (B0 H0 B H : Hp) (σ : L2.St) (D : Ends), Lift K B0 H0 E D → Sd K B0 H0 B H σ δ → ts D σ H
/-- assignment to a target -/
def GD (K : PySem.W.Frag) (g : TG) (δ : List SV) (d : D) (δ' : List SV) : Prop := ∀ (B0 H0 B H : Hp) (σ : L2.St) (v : V) (Q : L2.St → Hp → Prop), Sd K B0 H0 B H σ δ → Dp K B v d → (∀ σ', Sd K B0 H0 B H σ' δ' → Q σ' H) → g v σ H Q
def GDs (K : PySem.W.Frag) (g : TGs) (δ : List SV) (ds : List D) (δ' : List SV) : Prop := ∀ (B0 H0 B H : Hp) (σ : L2.St) (vs : List V) (Q : L2.St → Hp → Prop), Sd K B0 H0 B H σ δ → DpAll K B vs ds → (∀ σ', Sd K B0 H0 B H σ' δ' → Q σ' H) → g vs σ H Q
section
variable {K : PySem.W.Frag} {δ δ' δ'' : List SV} {ta tb te : TE} {c : TT} {t u : TS} {d x y : D} {ds es : List D} {E : EndsD}
theorem gd_name {i : Nat} : GD K (gName i) δ d (δ.set i (.val d)) := fun B0 H0 B H σ v Q S h q => q _ (S.setVal h)
theorem gds_nil : GDs K gNil δ [] δ := fun B0 H0 B H σ vs Q S h q => by
  cases h
  exact ⟨rfl, q σ S⟩
theorem gds_cons {g : TG} {gs : TGs} (h1 : GD K g δ d δ') (h2 : GDs K gs δ' ds δ'') : GDs K (gCons g gs) δ (d :: ds) δ'' := fun B0 H0 B H σ vs Q S h q => by
  cases h with
  | cons a b => exact ⟨_, _, rfl, h1 B0 H0 B H σ _ _ S a fun σ' S' => h2 B0 H0 B H σ' _ _ S' b q⟩
theorem gd_tup {g : TGs} {n : Nat} (h : GDs K g δ ds δ') (e : ds.length = n) : GD K (gTup K n g) δ (.tuple ds) δ' := fun B0 H0 B H σ v Q S a q => by
  cases a with
  | tup hs hA => exact ⟨_, _, rfl, sqT_up S.hist.bh hs, hA.len.trans e, h B0 H0 B H σ _ Q S hA q⟩

theorem wp_seq (h : WP K t { E with nx := fun δ' => WP K u E δ' } δ) : WP K (tSeq t u) E δ := fun B0 H0 B H σ D L S =>
  h B0 H0 B H σ { D with nx := u D } ⟨fun σ' H' B' δ' S' w => w B0 H0 B' H' σ' D L S', L.rt, L.bk, L.ct⟩ S
theorem wp_next (h : E.nx δ) : WP K tNext E δ := fun B0 H0 B H σ D L S => L.nx σ H B δ S h
theorem wp_asgG {g : TG} (h : ED K te δ d) (hg : GD K g δ d δ') (q : E.nx δ') : WP K (tAsg te g) E δ := fun B0 H0 B H σ D L S =>
  h B0 H0 B H σ _ S fun v B1 H1 s1 a => hg B0 H0 B1 H1 σ v _ (S.step s1) a fun σ' S' => L.nx σ' H1 B1 δ' S' q
theorem wp_asg {i : Nat} (h : ED K te δ d) (q : E.nx (δ.set i (.val d))) : WP K (tAsg te (gName i)) E δ := wp_asgG h gd_name q
theorem wp_asgN {i : Nat} (h : EN K te δ ds) (q : E.nx (δ.set i (.own ds))) : WP K (tAsg te (gName i)) E δ := fun B0 H0 B H σ D L S =>
  h B0 H0 B H σ _ S fun p vs B1 H1 s1 np bp hp a => by
    refine L.nx _ H1 B1 _ ((S.step s1).set (x := .own ds) (show SlotOk K B1 H1 H0 (some (.ref p)) (.own ds) from ⟨p, vs, rfl, hp, bp, S.hist.hh.free np, a⟩) fun es _ j pp es' _ e1 e2 e3 => ?_) q
    cases e1
    obtain ⟨p', vs', a1, a2, _⟩ := S.slotOwn e2
    rw [e3] at a1; cases a1
    rw [np] at a2; cases a2
theorem wp_par {i j : Nat} {ta : TA} (h : EA K ta δ [x, y]) (q : E.nx ((δ.set i (.val x)).set j (.val y))) : WP K (tPar i j ta) E δ := fun B0 H0 B H σ D L S =>
  h B0 H0 B H σ _ S fun vs B1 H1 s1 a => by
    obtain ⟨v, w, rfl, b, c⟩ := a.two
    exact ⟨v, w, rfl, L.nx _ H1 B1 _ (((S.step s1).setVal b).setVal c) q⟩
theorem wp_ret (h : ED K te δ d) (q : E.rt d) : WP K (tRet te) E δ := fun B0 H0 B H σ D L S =>
  h B0 H0 B H σ _ S fun v B1 H1 s1 a => L.rt v B1 H1 d (s1.hist S.hist) a q
theorem wp_retN (q : E.rt .none) : WP K tRetN E δ := fun B0 H0 B H σ D L S => L.rt _ B H .none S.hist .non q
theorem wp_if {b : Bool} (h : ET K c δ b) (h1 : b = true → WP K t E δ) (h2 : b = false → WP K u E δ) : WP K (tIfS c t u) E δ := fun B0 H0 B H σ D L S =>
  h B0 H0 B H σ _ S fun B1 H1 s1 => by
    cases b with
    | true => exact iteT (h1 rfl B0 H0 B1 H1 σ D L (S.step s1))
    | false => exact iteF (h2 rfl B0 H0 B1 H1 σ D L (S.step s1))
theorem wp_drop (h : ED K te δ d) (q : E.nx δ) : WP K (tDrop te) E δ := fun B0 H0 B H σ D L S =>
  h B0 H0 B H σ _ S fun v B1 H1 s1 a => L.nx σ H1 B1 δ (S.step s1) q
theorem wp_break (q : E.bk δ) : WP K tBreak E δ := fun B0 H0 B H σ D L S => L.bk σ H B δ S q
theorem wp_cont (q : E.ct δ) : WP K tCont E δ := fun B0 H0 B H σ D L S => L.ct σ H B δ S q
/-- an owned list is known from now on -/
theorem Sd.freeze {B0 H0 B H : Hp} {σ : L2.St} {i : Nat} (S : Sd K B0 H0 B H σ δ) (e : δ[i]? = some (.own ds)) : ∃ B', Sd K B0 H0 B' H σ (δ.set i (.val (.list ds))) ∧ Same B B' := by
  obtain ⟨p, vs, a1, hp, bp, h0, dp⟩ := S.slotOwn e
  obtain ⟨k1, k2⟩ := Stp.know (o := .lst vs) S.hist.bh bp hp
  refine ⟨upd B p (.lst vs), ⟨⟨S.hist.bb.trans k1, k2, S.hist.hh, fun a q z => ?_⟩, by rw [List.length_set]; exact S.len, fun j s ej => ?_, fun j k q es fs n e1 e2 e3 e4 => ?_⟩, k1⟩
  · have : a ≠ p := fun e => by subst e; exact q h0
    rw [upd_ne this]; exact S.hist.fr a q z
  · rcases get_set ej with ⟨rfl, rfl⟩ | ⟨hne, ej⟩
    · exact ⟨_, a1, .ref p, rfl, .lst (.inl (.inl upd_same)) (DpAll.up k1 _ _ dp)⟩
    · obtain ⟨o, eo, ok⟩ := S.ok j s ej
      refine ⟨o, eo, ?_⟩
      cases s with
      | no => exact True.intro
      | val d => obtain ⟨v, e1, e2⟩ := ok; exact ⟨v, e1, Dp.up k1 _ _ e2⟩
      | own es =>
        obtain ⟨pp, ws, e1, e2, e3, e4, e5⟩ := ok
        have hne2 : pp ≠ p := fun z => by
          subst z
          subst e1
          exact S.apart i j pp ds es hne e ej a1 eo
        exact ⟨pp, ws, e1, e2, by rw [upd_ne hne2]; exact e3, e4, DpAll.up k1 _ _ e5⟩
  · rcases get_set e1 with ⟨_, z⟩ | ⟨_, e1⟩
    · cases z
    · rcases get_set e2 with ⟨_, z⟩ | ⟨_, e2⟩
      · cases z
      · exact S.apart j k q es fs n e1 e2 e3 e4
theorem wp_freeze (i : Nat) (e : δ[i]? = some (.own ds)) (h : WP K t E (δ.set i (.val (.list ds)))) : WP K t E δ := fun B0 H0 B H σ D L S => by
  obtain ⟨B', S', _⟩ := S.freeze e
  exact h B0 H0 B' H σ D L S'
theorem wp_retOwn {i : Nat} (e : δ[i]? = some (.own ds)) (q : E.rt (.list ds)) : WP K (tRet (tVar i)) E δ :=
  wp_freeze i e (wp_ret (ed_var (by
    have hl : i < δ.length := (List.getElem?_eq_some_iff.mp e).1
    rw [List.getElem?_set_self hl])) q)
/-- xs.append(e), xs owned -/
theorem own_upd {B0 H0 B H : Hp} {σ : L2.St} {i : Nat} {p : Addr} {ws : List V} (S : Sd K B0 H0 B H σ δ) (e : δ[i]? = some (.own ds)) (a1 : σ[i]? = some (some (.ref p))) (bp : B p = none) (h0 : H0 p = none) (h : DpAll K B ws es) : Sd K B0 H0 B (upd H p (.lst ws)) σ (δ.set i (.own es)) := by
  have hsi : i < δ.length := (List.getElem?_eq_some_iff.mp e).1
  refine ⟨⟨S.hist.bb, fun a o ea => ?_, fun a o ea => ?_, S.hist.fr⟩, by rw [List.length_set]; exact S.len, fun j s ej => ?_, fun j k q es' fs n e1 e2 e3 e4 => ?_⟩
  · have : a ≠ p := fun z => by subst z; rw [bp] at ea; cases ea
    rw [upd_ne this]; exact S.hist.bh _ _ ea
  · have : a ≠ p := fun z => by subst z; rw [h0] at ea; cases ea
    rw [upd_ne this]; exact S.hist.hh _ _ ea
  · rcases get_set ej with ⟨rfl, rfl⟩ | ⟨hne, ej⟩
    · exact ⟨_, a1, p, ws, rfl, upd_same, bp, h0, h⟩
    · obtain ⟨o, eo, ok⟩ := S.ok j s ej
      refine ⟨o, eo, ?_⟩
      cases s with
      | no => exact True.intro
      | val d => exact ok
      | own es' =>
        obtain ⟨pp, us, e1, e2, e3, e4, e5⟩ := ok
        have hne2 : pp ≠ p := fun z => by
          subst z
          subst e1
          exact S.apart i j pp ds es' hne e ej a1 eo
        exact ⟨pp, us, e1, by rw [upd_ne hne2]; exact e2, e3, e4, e5⟩
  · have back : ∀ {m : Nat} {gs : List D}, (δ.set i (.own es))[m]? = some (.own gs) → ∃ gs', δ[m]? = some (.own gs') := fun {m gs} z => by
      rcases get_set z with ⟨rfl, _⟩ | ⟨_, z⟩
      · exact ⟨_, e⟩
      · exact ⟨_, z⟩
    obtain ⟨g1, f1⟩ := back e1
    obtain ⟨g2, f2⟩ := back e2
    exact S.apart j k q g1 g2 n f1 f2 e3 e4
theorem wp_app {i : Nat} (e : δ[i]? = some (.own ds)) (h : ED K te δ d) (hl : ds.length < sizeLine) (q : E.nx (δ.set i (.own (ds ++ [d])))) : WP K (tDrop (tBM K "list" rAppend (tVar i) (tCons te tNil))) E δ := fun B0 H0 B H σ D L S => by
  obtain ⟨p, vs, a1, hp, bp, h0, dp⟩ := S.slotOwn e
  refine ⟨_, a1, .inl ⟨rfl, vs, .inl (.inl hp)⟩, h B0 H0 B H σ _ S fun v B1 H1 s1 a => ?_⟩
  have S1 := S.step s1
  obtain ⟨p', vs', a1', hp', bp', h0', dp'⟩ := S1.slotOwn e
  rw [a1] at a1'; cases a1'
  refine ⟨p, vs', v, rfl, rfl, hp', by rw [dp'.len]; exact hl, L.nx _ _ B1 _ (own_upd S1 e a1 bp' h0' (dp'.app (.cons a .nil))) q⟩
theorem ixN_at {n : Nat} {i : Int} {j : Nat} (h0 : 0 ≤ i) (h : i < n) (e : i.toNat = j) : ixN n i = some j := by
  unfold ixN
  rw [if_pos h0, if_pos h, e]
/-- xs[i] = e, xs owned -/
theorem wp_setOwn {i : Nat} {k : Int} {j : Nat} (e : δ[i]? = some (.own ds)) (h : ED K te δ d) (hk : ED K tb δ (.int k)) (hj : ixN ds.length k = some j) (q : E.nx (δ.set i (.own (ds.set j d)))) : WP K (tAsg te (gSub (tVar i) tb rSetL)) E δ := fun B0 H0 B H σ D L S =>
  h B0 H0 B H σ _ S fun v B1 H1 s1 a => by
    have S1 := S.step s1
    obtain ⟨p, vs, a1, hp, bp, h0, dp⟩ := S1.slotOwn e
    refine ⟨_, a1, hk B0 H0 B1 H1 σ _ S1 fun w B2 H2 s2 b => ?_⟩
    cases Dp.int_inv b
    have S2 := S1.step s2
    obtain ⟨p', vs', a1', hp', bp', h0', dp'⟩ := S2.slotOwn e
    rw [a1] at a1'; cases a1'
    exact ⟨p, vs', k, j, rfl, rfl, hp', by rw [dp'.len]; exact hj, L.nx _ _ B2 _ (own_upd S2 e a1 bp' h0' (dp'.set (Dp.up s2.bb _ _ a) j)) q⟩
/-- x op= e, ints -/
theorem wp_aug {i : Nat} {f : Int → Int → Int} {a b : Int} (hx : δ[i]? = some (.val (.int a))) (h : ED K te δ (.int b)) (q : E.nx (δ.set i (.val (.int (f a b))))) : WP K (tAug i te (ipI f)) E δ := fun B0 H0 B H σ D L S => by
  obtain ⟨v, e, dv⟩ := S.slot hx
  cases Dp.int_inv dv
  refine ⟨_, e, h B0 H0 B H σ _ S fun w B1 H1 s1 c => ?_⟩
  cases Dp.int_inv c
  exact ⟨a, b, rfl, rfl, L.nx _ H1 B1 _ ((S.step s1).setVal (.int _)) q⟩
/-! ### loops -/
theorem wp_for {wi : TI} {g : TG} (I : Nat → List SV → Prop) (hw : EI K wi δ ds) (h0 : I 0 δ)
    (hs : ∀ k d δ', ds[k]? = some d → I k δ' → ∃ δ'', GD K g δ' d δ'' ∧ WP K t { E with nx := I (k + 1), ct := I (k + 1), bk := E.nx } δ'') (hd : ∀ δ', I ds.length δ' → E.nx δ') : WP K (tFor wi g t) E δ := fun B0 H0 B H σ D L S =>
  hw B0 H0 B H σ _ S fun J B1 H1 s1 yd => by
    have S1 := S.step s1
    refine ⟨fun k m σ' H' => m = ds.length - k ∧ k ≤ ds.length ∧ ∃ B' δ', Sd K B1 H0 B' H' σ' δ' ∧ I k δ', ⟨_, rfl, Nat.zero_le _, B1, δ, S1.past S1.hist.bb (Same.refl _), h0⟩, ?_⟩
    rintro k m σ' H' ⟨rfl, hk, B', δ', S', ik⟩
    obtain ⟨y1, y2⟩ := yd B' H' k S'.hist.bb S'.hist.bh
    by_cases hlt : k < ds.length
    · obtain ⟨go, yy⟩ := y1 hlt
      refine .inr ⟨go, fun σ2 H2 => ∃ B2 δ2, Sd K B1 H0 B2 H2 σ2 δ2 ∧ I (k + 1) δ2, fun σ2 H2 ⟨B2, δ2, S2, i2⟩ => ⟨ds.length - (k + 1), by omega, rfl, hlt, B2, δ2, S2, i2⟩, fun x H2 yl => ?_⟩
      obtain ⟨B2, d, s2, ed, dp⟩ := yy x H2 yl
      obtain ⟨δ'', gd, wp⟩ := hs k d δ' ed ik
      refine gd B1 H0 B2 H2 σ' x _ (S'.step s2) dp fun σ3 S3 => wp B1 H0 B2 H2 σ3 _ ⟨fun σ4 H4 B4 δ4 S4 q => ⟨B4, δ4, S4, q⟩, fun v B4 H4 d' hh dv q => L.rt v B4 H4 d' (hh.back S1.hist) dv q, fun σ4 H4 B4 δ4 S4 q => L.nx σ4 H4 B4 δ4 (S4.back S1.hist) q, fun σ4 H4 B4 δ4 S4 q => ⟨B4, δ4, S4, q⟩⟩ S3
    · have e : k = ds.length := by omega
      subst e
      exact .inl ⟨y2 rfl, L.nx σ' H' B' δ' (S'.back S1.hist) (hd δ' ik)⟩
/-- one name as target -/
theorem wp_for1 {wi : TI} {i : Nat} (I : Nat → List SV → Prop) (hw : EI K wi δ ds) (h0 : I 0 δ)
    (hs : ∀ k d δ', ds[k]? = some d → I k δ' → WP K t { E with nx := I (k + 1), ct := I (k + 1), bk := E.nx } (δ'.set i (.val d))) (hd : ∀ δ', I ds.length δ' → E.nx δ') : WP K (tFor wi (gName i) t) E δ :=
  wp_for I hw h0 (fun k d δ' e ik => ⟨_, gd_name, hs k d δ' e ik⟩) hd
theorem wp_forG {α : Type} {xs : List α} {g : α → D} {wi : TI} {i : Nat} (I : Nat → List SV → Prop) (hw : EI K wi δ (xs.map g)) (h0 : I 0 δ)
    (hs : ∀ k x δ', xs[k]? = some x → I k δ' → WP K t { E with nx := I (k + 1), ct := I (k + 1), bk := E.nx } (δ'.set i (.val (g x)))) (hd : ∀ δ', I xs.length δ' → E.nx δ') : WP K (tFor wi (gName i) t) E δ :=
  wp_for1 I hw h0 (fun k d δ' e ik => by
    rw [List.getElem?_map] at e
    cases q : xs[k]? with
    | none => rw [q] at e; cases e
    | some x => rw [q] at e; cases e; exact hs k x δ' q ik) (by rw [List.length_map]; exact hd)
theorem wp_while (I : Nat → List SV → Prop) {n : Nat} (h0 : I n δ)
    (hs : ∀ n δ', I n δ' → ∃ b, ET K c δ' b ∧ (b = true → WP K t { E with nx := fun δ2 => ∃ m, m < n ∧ I m δ2, ct := fun δ2 => ∃ m, m < n ∧ I m δ2, bk := E.nx } δ') ∧ (b = false → E.nx δ')) : WP K (tWhile c t) E δ := fun B0 H0 B H σ D L S => by
  refine ⟨fun m σ' H' => ∃ B' δ', Sd K B0 H0 B' H' σ' δ' ∧ I m δ', ⟨n, B, δ, S, h0⟩, ?_⟩
  rintro m σ' H' ⟨B', δ', S', im⟩
  obtain ⟨b, hb, h1, h2⟩ := hs m δ' im
  refine hb B0 H0 B' H' σ' _ S' fun B2 H2 s2 => ?_
  cases b with
  | true =>
    refine iteT ⟨fun σ3 H3 => ∃ m', m' < m ∧ ∃ B3 δ3, Sd K B0 H0 B3 H3 σ3 δ3 ∧ I m' δ3, fun σ3 H3 z => z, h1 rfl B0 H0 B2 H2 σ' _ ⟨?_, L.rt, L.nx, ?_⟩ (S'.step s2)⟩
    · rintro σ4 H4 B4 δ4 S4 ⟨m', l, q⟩
      exact ⟨m', l, B4, δ4, S4, q⟩
    · rintro σ4 H4 B4 δ4 S4 ⟨m', l, q⟩
      exact ⟨m', l, B4, δ4, S4, q⟩
  | false => exact iteF (L.nx σ' H2 B2 δ' (S'.step s2) (h2 rfl))
end
/-! ### a def -/
def startD (N : List Str) (ds : List D) : List SV := ds.map .val ++ List.replicate (N.length - ds.length) .no
section
variable {P : Program} {w : World} {K : PySem.W.Frag} {mg : Str → Option Value} {base : Heap}
theorem start_sd {N : List Str} {vs : List V} {ds : List D} {B H : Hp} (bh : Same B H) (h : DpAll K B vs ds) : Sd K B H B H (L2.start N vs) (startD N ds) := by
  have hl := h.len
  refine ⟨⟨Same.refl _, bh, Same.refl _, fun _ _ z => z⟩, ?_, fun i s e => ?_, fun i j p es fs n e1 e2 e3 e4 => ?_⟩
  · unfold L2.start startD
    rw [List.length_append, List.length_append, List.length_map, List.length_map, List.length_replicate, List.length_replicate, hl]
  · unfold startD at e
    unfold L2.start
    by_cases hi : i < ds.length
    · rw [List.getElem?_append_left (by rw [List.length_map]; exact hi), List.getElem?_map, List.getElem?_eq_getElem hi] at e
      cases e
      obtain ⟨v, a, b⟩ := h.get (List.getElem?_eq_getElem hi)
      rw [List.getElem?_append_left (by rw [List.length_map, hl]; exact hi), List.getElem?_map, a]
      exact ⟨_, rfl, v, rfl, b⟩
    · rw [List.getElem?_append_right (by rw [List.length_map]; omega), List.length_map] at e
      rw [List.getElem?_append_right (by rw [List.length_map, hl]; omega), List.length_map, hl]
      rw [List.getElem?_replicate] at e ⊢
      by_cases hz : i - ds.length < N.length - ds.length
      · rw [if_pos hz] at e ⊢
        cases e
        exact ⟨_, rfl, True.intro⟩
      · rw [if_neg hz] at e; cases e
  · unfold startD at e1
    by_cases hi : i < ds.length
    · rw [List.getElem?_append_left (by rw [List.length_map]; exact hi), List.getElem?_map, List.getElem?_eq_getElem hi] at e1
      cases e1
    · rw [List.getElem?_append_right (by rw [List.length_map]; omega), List.length_map, List.getElem?_replicate] at e1
      by_cases hz : i - ds.length < N.length - ds.length
      · rw [if_pos hz] at e1; cases e1
      · rw [if_neg hz] at e1; cases e1
theorem ok_wp {x qual : Str} {st : Stmt} {f : Addr} {fd : FuncData} {N ps : List Str} {k : Nat} {R : List D → D → Prop} (F : Fun K x qual st f fd) (S : FnScope N ps (defScope st)) (len : ∀ ds d, R ds d → ds.length = ps.length)
    (hb : ∀ (cdv : Value) (A : Around) (outer : List Env) (s : Shared) (H : Hp) (E : XK), Room k (A.deeper (PyProof.Rows.envOfC qual (defScope st) s.heap.objs.size f cdv)) →
      ∃ t, PSs (cxOf CX0 P w K mg base N qual (defScope st) f cdv A outer s H E).nox (defBody st) t ∧ ∀ ds d, R ds d → WP K t { nx := fun _ => PyData.none = d, rt := fun d' => d' = d } (startD N ds)) : FnOk P w K mg base CX0 (k + 1) f fd ps (spD K R) := by
  refine F.ok S (fun vs H Q E h => ?_) (fun cdv A outer s H vs Q E hr h => ?_)
  · obtain ⟨B, ds, d, r, bh, a, _⟩ := h
    rw [a.len]; exact len ds d r
  · obtain ⟨t, ht, q⟩ := hb cdv A outer s H E hr
    refine ⟨t, ht, ?_⟩
    obtain ⟨B, ds, d, r, bh, a, hq⟩ := h
    refine q ds d r B H B H _ _ ⟨fun σ' H' B' δ' S' e => ?_, fun v B' H' d' hh dv e => ?_, fun _ _ _ _ _ z => z.elim, fun _ _ _ _ _ z => z.elim⟩ (start_sd bh a)
    · subst e
      exact hq _ B' H' ⟨S'.hist.bb, S'.hist.bh, S'.hist.hh, S'.hist.fr⟩ .non
    · subst e
      exact hq v B' H' ⟨hh.bb, hh.bh, hh.hh, hh.fr⟩ dv
end
end DX
namespace DX
open PySem L2

/-! ### rules with the written part named -/
section
variable {X : Cx} {K : PySem.W.Frag} {tg l e : Expr} {tl te : TE} {pos : Pos}
theorem kx_ix (hK : X.K = K := by rfl) : IxR X (rIx K) := by subst hK; exact ix_seq
theorem kx_sl (hK : X.K = K := by rfl) : SlR X (rSlL K) := by subst hK; exact sl_list
theorem kx_len (hK : X.K = K := by rfl) : CallR X (.builtin "len") (rLenQ K) := by subst hK; exact cr_lenQ
theorem kx_list (hK : X.K = K := by rfl) : CallR X (.type "list") (rListQ K) := by subst hK; exact cr_listQ
theorem kx_tuple (hK : X.K = K := by rfl) : CallR X (.type "tuple") (rTupleQ K) := by subst hK; exact cr_tupleQ
theorem kx_isi (hK : X.K = K := by rfl) : CallR X (.builtin "isinstance") (rIsi K) := by subst hK; exact call_isi
theorem kx_sum (hK : X.K = K := by rfl) (hc : X.calm = true := by rfl) : CallR X (.builtin "sum") (rSum K) := by subst hK; exact cr_sum hc
theorem kx_all (hK : X.K = K := by rfl) (hc : X.calm = true := by rfl) : CallR X (.builtin "all") (rAll K) := by subst hK; exact cr_all hc
theorem kx_any (hK : X.K = K := by rfl) (hc : X.calm = true := by rfl) : CallR X (.builtin "any") (rAny K) := by subst hK; exact cr_any hc
theorem kx_eq (hu : X.A.units + 64 < cLine) (hK : X.K = K := by rfl) : OpR X (compareOp .Eq) (rEqD K) := by subst hK; exact op_eqD hu
theorem kx_ne (hu : X.A.units + 64 < cLine) (hK : X.K = K := by rfl) : OpR X (compareOp .NotEq) (rNeD K) := by subst hK; exact op_neD hu
theorem kpi_list (hl : PE X l tl) (hK : X.K = K := by rfl) : PI X tg l (iList K tl) := by subst hK; exact pi_list hl
theorem kpi_tup (hl : PE X l tl) (hK : X.K = K := by rfl) : PI X tg l (iTup K tl) := by subst hK; exact pi_tup hl
theorem kpg_tup {es : List Expr} {k : Nat} {t : TGs} {n : Nat} (hc : X.calm = true) (h : PGs X es t) (hK : X.K = K := by rfl)
    (hn : (assignEach es X.env).length = n := by rfl) (hst : (assignEach es X.env).findIdx? (·.1) = none := by rfl) : PG X (.Tuple es k pos) (gTup K n t) := by subst hK; exact pg_tup hc h hn hst
theorem kpe_rev {k : Nat} {p1 p2 p3 : Pos} (he : PE X e te) (hK : X.K = K := by rfl) : PE X (.Subscript e (.Slice none none (some (.UnaryOp .USub (.Constant (.int 1) k p1) p2)) p3) pos) (tRevL K te) := by subst hK; exact pe_revL he
end
/-! ### data that may be compared -/
def Shp (n : Nat) (d : D) : Prop := d.canLay0 = true ∧ d.depth ≤ n
theorem Shp.shaped {n : Nat} {d : D} (h : Shp n d) (hn : n ≤ 64 := by decide) : SeqAt.shaped d = true := by
  unfold SeqAt.shaped
  rw [h.1, Bool.true_and]
  exact decide_eq_true (Nat.le_trans h.2 hn)
theorem shp_int {n : Nat} {i : Int} : Shp n (.int i) := by
  refine ⟨by simp only [PyData.canLay0], ?_⟩
  simp only [PyData.depth]; omega
theorem shp_bool {n : Nat} {b : Bool} : Shp n (.bool b) := by
  refine ⟨by simp only [PyData.canLay0], ?_⟩
  simp only [PyData.depth]; omega
theorem shp_none {n : Nat} : Shp n .none := by
  refine ⟨by simp only [PyData.canLay0], ?_⟩
  simp only [PyData.depth]; omega
theorem shp_all {n : Nat} : ∀ {ds : List D}, (∀ d ∈ ds, Shp n d) → PyData.canLayAll0 ds = true ∧ PyData.depthAll ds ≤ n
  | [], _ => ⟨by simp only [PyData.canLayAll0], by simp only [PyData.depthAll]; omega⟩
  | d :: ds, h => by
    obtain ⟨a, b⟩ := h d (List.mem_cons_self ..)
    obtain ⟨c, e⟩ := shp_all (ds := ds) fun x hx => h x (List.mem_cons_of_mem _ hx)
    refine ⟨?_, ?_⟩
    · simp only [PyData.canLayAll0, a, c, Bool.and_self]
    · simp only [PyData.depthAll]; omega
theorem shp_list {n : Nat} {ds : List D} (h : ∀ d ∈ ds, Shp n d) : Shp (n + 1) (.list ds) := by
  obtain ⟨a, b⟩ := shp_all h
  refine ⟨by simp only [PyData.canLay0, a], ?_⟩
  simp only [PyData.depth]; omega
theorem shp_tup {n : Nat} {ds : List D} (h : ∀ d ∈ ds, Shp n d) : Shp (n + 1) (.tuple ds) := by
  obtain ⟨a, b⟩ := shp_all h
  refine ⟨by simp only [PyData.canLay0, a], ?_⟩
  simp only [PyData.depth]; omega
theorem shp_map {α : Type} {n : Nat} {xs : List α} {g : α → D} (h : ∀ x, Shp n (g x)) : ∀ d ∈ xs.map g, Shp n d := fun d hd => by
  obtain ⟨x, _, rfl⟩ := List.mem_map.mp hd
  exact h x
theorem shp_ints {n : Nat} {ns : List Int} : Shp (n + 1) (.list (ns.map PyData.int)) := shp_list (shp_map fun _ => shp_int)
theorem shp_tints {n : Nat} {ns : List Int} : Shp (n + 1) (.tuple (ns.map PyData.int)) := shp_tup (shp_map fun _ => shp_int)
theorem eqv_self {n : Nat} {d : D} (h : Shp n d) : PyData.eqv d d = true := PySem.SeqAt.eqv_refl d h.1

section
variable {K : PySem.W.Frag} {δ δ' δ'' : List SV} {ta tb te : TE} {c : TT} {t u : TS} {d x y : D} {ds es : List D} {E : EndsD}
theorem wp_cut (C : List SV → Prop) (h : WP K t { E with nx := C } δ) (q : ∀ δ', C δ' → E.nx δ') : WP K t E δ := fun B0 H0 B H σ D L S =>
  h B0 H0 B H σ D ⟨fun σ' H' B' δ' S' z => L.nx σ' H' B' δ' S' (q δ' z), L.rt, L.bk, L.ct⟩ S
theorem ei_rngN {n : Nat} {i : Int} (h : ED K te δ (.int i)) (e : i = (n : Int)) (hn : n ≤ 1000000) : EI K (iRng1 (tCons te tNil)) δ ((List.range n).map fun k => PyData.int (k : Nat)) := by
  subst e
  refine EI.of (ei_rng1 h (by omega)) ?_
  unfold rngD
  rw [Int.toNat_natCast]
  congr 1
  funext k
  rw [Int.zero_add]
/-! ### expressions that give some datum -/
def EP (K : PySem.W.Frag) (te : TE) (δ : List SV) (P : D → Prop) : Prop := ∀ (B0 H0 B H : Hp) (σ : L2.St) (Q : VK), Sd K B0 H0 B H σ δ → (∀ v B' H' d, Stp B H B' H' → Dp K B' v d → P d → Q v H') → te σ H Q
theorem ED.ep (h : ED K te δ d) : EP K te δ (fun x => x = d) := fun B0 H0 B H σ Q S q => h B0 H0 B H σ Q S fun v B' H' s a => q v B' H' d s a rfl
def spP (K : PySem.W.Frag) (Pre : List D → Prop) (Post : List D → D → Prop) : Sp := fun vs H Q _ => ∃ B ds, Pre ds ∧ Same B H ∧ DpAll K B vs ds ∧ ∀ v B' H' d, Stp B H B' H' → Dp K B' v d → Post ds d → Q v H'
theorem ep_call {ta : TA} {Pre : List D → Prop} {Post : List D → D → Prop} {X : XK} (h : EA K ta δ ds) (r : Pre ds) : EP K (tCall (spP K Pre Post) [] X ta) δ (Post ds) := fun B0 H0 B H σ Q S q =>
  h B0 H0 B H σ _ S fun vs B1 H1 s1 a => ⟨B1, ds, r, s1.bh, by rw [List.append_nil]; exact a, fun v B' H' d s2 b p => q v B' H' d (s1.trans s2) b p⟩
theorem wp_asgP {i : Nat} {P : D → Prop} (h : EP K te δ P) (q : ∀ d, P d → E.nx (δ.set i (.val d))) : WP K (tAsg te (gName i)) E δ := fun B0 H0 B H σ D L S =>
  h B0 H0 B H σ _ S fun v B1 H1 d s1 a p => L.nx _ H1 B1 _ ((S.step s1).setVal a) (q d p)
theorem wp_retP {P : D → Prop} (h : EP K te δ P) (q : ∀ d, P d → E.rt d) : WP K (tRet te) E δ := fun B0 H0 B H σ D L S =>
  h B0 H0 B H σ _ S fun v B1 H1 d s1 a p => L.rt v B1 H1 d (s1.hist S.hist) a (q d p)
end

theorem cx_K {CX : CXT} {P : Program} {w : World} {K : PySem.W.Frag} {mg : Str → Option Value} {base : Heap} {N : List Str} {q : Str} {sc : Scope} {f : Addr} {cd : Value} {A : Around} {outer : List Env} {s : Shared} {H : Hp} {E : XK} :
    (cxOf CX P w K mg base N q sc f cd A outer s H E).K = K := rfl
theorem nox_K {X : Cx} : X.nox.K = X.K := rfl
theorem blk_K {X : Cx} {s : Shared} {H : Hp} {sc : Scope} {e : Env} {fp : List Addr} : (X.blk s H sc e fp).K = X.K := rfl
/-! ### sizes -/
def Lt (k : Nat) (n : Int) : Prop := n.natAbs < 2 ^ k
theorem Lt.mono {a b : Nat} {n : Int} (h : Lt a n) (e : a ≤ b := by decide) : Lt b n := Nat.lt_of_lt_of_le h (Nat.pow_le_pow_right (by decide) e)
theorem Lt.mul {a b : Nat} {i j : Int} (h : Lt a i) (h' : Lt b j) : Lt (a + b) (i * j) := wide_lt h h'
theorem Lt.add {k : Nat} {i j : Int} (h : Lt k i) (h' : Lt k j) : Lt (k + 1) (i + j) := by
  unfold Lt at *
  rw [Nat.pow_succ]
  omega
theorem Lt.sub {k : Nat} {i j : Int} (h : Lt k i) (h' : Lt k j) : Lt (k + 1) (i - j) := by
  unfold Lt at *
  rw [Nat.pow_succ]
  omega
theorem Lt.neg {k : Nat} {i : Int} (h : Lt k i) : Lt k (-i) := by
  unfold Lt at *
  omega
theorem Lt.le {k : Nat} {i j : Int} (h : Lt k j) (e : i.natAbs ≤ j.natAbs) : Lt k i := Nat.lt_of_le_of_lt e h
theorem mulX {i j : Int} {a b : Nat} (h : Lt a i) (h' : Lt b j) (ha : 0 < a := by decide) (hb : 0 < b := by decide) (hl : a + b ≤ 1000000 := by decide) : CMulX i j := .inr (wide_mul h h' ha hb hl)
theorem mulL {i j : Int} (h : -(2 ^ 64) < i ∧ i < 2 ^ 64) : CMulX i j := .inl (.inl h)
theorem mulR {i j : Int} (h : -(2 ^ 64) < j ∧ j < 2 ^ 64) : CMulX i j := .inl (.inr h)
theorem divX {i j : Int} {k : Nat} (h : j ≠ 0) (hl : Lt k j) (hk : k ≤ 9000 := by decide) (h0 : 0 < k := by decide) : CDivX i j := ⟨h, Nat.lt_of_lt_of_le (PySem.Flt.log2_lt_of h0 hl) hk⟩
theorem powX {i j : Int} (h : 0 ≤ j ∧ j ≤ 1000000 ∧ i.natAbs < 2 ^ 64) : CPow i j := h
theorem gcd_pos {n m : Int} (h : m ≠ 0) : 0 < Nat.gcd n.natAbs m.natAbs := Nat.gcd_pos_of_pos_right _ (Int.natAbs_pos.mpr h)
theorem gcd_le {n m : Int} (h : m ≠ 0) : Nat.gcd n.natAbs m.natAbs ≤ m.natAbs := Nat.gcd_le_right _ (Int.natAbs_pos.mpr h)

/-! ### numbers -/
def numV (p : Int × Int) : D := .tuple [.int p.1, .int p.2]
theorem shp_num {n : Nat} {p : Int × Int} : Shp (n + 1) (numV p) := shp_tup fun d hd => by
  rcases List.mem_cons.mp hd with rfl | hd
  · exact shp_int
  · rcases List.mem_cons.mp hd with rfl | hd
    · exact shp_int
    · cases hd
/-- the divisor by which n / m is brought to lowest terms, m's sign with it -/
def dvs (n m : Int) : Int := if m < 0 then -(Nat.gcd n.natAbs m.natAbs : Nat) else (Nat.gcd n.natAbs m.natAbs : Nat)
def nrm (n m : Int) : Int × Int := (n.fdiv (dvs n m), m.fdiv (dvs n m))
theorem dvs_abs (n m : Int) : (dvs n m).natAbs = Nat.gcd n.natAbs m.natAbs := by
  unfold dvs
  split <;> omega
theorem dvs_ne {n m : Int} (h : m ≠ 0) : dvs n m ≠ 0 := by
  have := gcd_pos (n := n) h
  have e := dvs_abs n m
  omega
theorem dvs_dvdl (n m : Int) : dvs n m ∣ n := by
  rw [← Int.natAbs_dvd_natAbs, dvs_abs]
  exact Nat.gcd_dvd_left _ _
theorem dvs_dvdr (n m : Int) : dvs n m ∣ m := by
  rw [← Int.natAbs_dvd_natAbs, dvs_abs]
  exact Nat.gcd_dvd_right _ _
theorem fdiv_of_dvd {a b : Int} (h : b ∣ a) : a.fdiv b * b = a := Int.fdiv_mul_cancel h
theorem nrm_mul1 (n m : Int) : (nrm n m).1 * dvs n m = n := fdiv_of_dvd (dvs_dvdl n m)
theorem nrm_mul2 (n m : Int) : (nrm n m).2 * dvs n m = m := fdiv_of_dvd (dvs_dvdr n m)
theorem nrm_pos {n m : Int} (h : m ≠ 0) : 0 < (nrm n m).2 := by
  have e := nrm_mul2 n m
  have hd := dvs_ne (n := n) h
  by_cases hm : m < 0
  · have hd2 : dvs n m < 0 := by
      unfold dvs at hd ⊢
      rw [if_pos hm] at hd ⊢
      omega
    by_cases hz : 0 < (nrm n m).2
    · exact hz
    · have := Int.mul_nonneg_of_nonpos_of_nonpos (a := (nrm n m).2) (b := dvs n m) (by omega) (by omega)
      omega
  · have hd2 : 0 < dvs n m := by
      unfold dvs at hd ⊢
      rw [if_neg hm] at hd ⊢
      omega
    have hm2 : 0 < m := by omega
    exact Int.pos_of_mul_pos_left (by rw [e]; exact hm2) hd2
end DX

namespace DX
open PySem L2
local macro_rules | `(tactic| walk_at "ev1") => `(tactic| with_reducible first
  | exact ed_int | exact ed_bl | exact ed_non | exact ed_str
  | refine' ed_var ?_
  | refine' ed_rI0 ?_ ?_ ?_
  | refine' ed_rI ?_ ?_ ?_ ?_
  | refine' ed_rU ?_ ?_
  | refine' ed_ix ?_ ?_ ?_
  | refine' ed_tup ?_ ?_
  | exact ea_nil | refine' ea_cons ?_ ?_
  | refine' ed_len ?_ ?_ | refine' ed_abs ?_ | refine' ed_max2 ?_ ?_ | refine' ed_min2 ?_ ?_ | refine' ed_int1 ?_ ?_
  | refine' ed_gcd ?_ ?_ | refine' ed_lcm ?_ ?_ ?_ ?_
  | refine' ed_call ?_ ?_
  | refine' ed_isi ?_ ?_
  | refine' ed_isB ?_ ?_ | refine' ed_notB ?_ ?_
  | refine' ed_eqD ?_ ?_ ?_ ?_ ?_ | refine' ed_neD ?_ ?_ ?_ ?_ ?_
  | refine' et_test ?_ | refine' et_B ?_
  | refine' et_and ?_ (fun _ => ?_) | refine' et_or ?_ (fun _ => ?_) | refine' et_not ?_
  | refine' ed_andV ?_ (fun _ => ?_) | refine' ed_orV ?_ (fun _ => ?_) | refine' ed_notV ?_
  | refine' EN.ed (en_lst ?_ ?_) | refine' EN.ed (en_rep ?_ ?_ ?_ ?_) | refine' EN.ed (en_cat ?_ ?_ ?_)
  | refine' en_lst ?_ ?_ | refine' en_rep ?_ ?_ ?_ ?_ | refine' en_cat ?_ ?_ ?_ | refine' en_list ?_ ?_ | refine' EN.ed (en_list ?_ ?_)
  | refine' ei_list ?_ | refine' ei_rngN ?_ ?_ ?_ | refine' ei_tup ?_
  | exact Sc.int _ | exact Sc.bl _ | exact Shp.shaped shp_num | exact Shp.shaped (n := 0) shp_int | exact Shp.shaped (n := 1) shp_ints)
local macro_rules | `(tactic| walk_at "ev2") => `(tactic| first | walk_at "ev1" | rfl | exact Sc.int _ | exact Sc.bl _ | exact sz_small (by simp; done) | exact powX (by decide))
local macro_rules | `(tactic| walk_at "ev") => `(tactic| repeat' (walk_at "ev2"))
local macro_rules | `(tactic| walk_at "sh") => `(tactic| first | exact Shp.shaped (n := 0) shp_int | exact Shp.shaped (n := 1) shp_ints | exact Shp.shaped (n := 1) shp_num)

def topS (i : Nat) : Stmt := PySem.Challenge.pw_loadorloose_k01_numbers.main.body.getD i (.Pass ⟨0, 0, 0, 0⟩)
abbrev s_number : Stmt := topS 2
abbrev N_number : List Str := ["n", "d", "divisor"]
theorem sc_number : FnScope N_number ["n", "d"] (defScope s_number) := ⟨rfl, rfl, rfl, by decide +kernel, rfl, by decide +kernel, by decide +kernel⟩
abbrev s_plus : Stmt := topS 3
abbrev N_plus : List Str := ["a", "b"]
theorem sc_plus : FnScope N_plus ["a", "b"] (defScope s_plus) := ⟨rfl, rfl, rfl, by decide +kernel, rfl, by decide +kernel, by decide +kernel⟩
abbrev s_minus : Stmt := topS 4
abbrev N_minus : List Str := ["a", "b"]
theorem sc_minus : FnScope N_minus ["a", "b"] (defScope s_minus) := ⟨rfl, rfl, rfl, by decide +kernel, rfl, by decide +kernel, by decide +kernel⟩
abbrev s_times : Stmt := topS 5
abbrev N_times : List Str := ["a", "b"]
theorem sc_times : FnScope N_times ["a", "b"] (defScope s_times) := ⟨rfl, rfl, rfl, by decide +kernel, rfl, by decide +kernel, by decide +kernel⟩
abbrev s_over : Stmt := topS 6
abbrev N_over : List Str := ["a", "b"]
theorem sc_over : FnScope N_over ["a", "b"] (defScope s_over) := ⟨rfl, rfl, rfl, by decide +kernel, rfl, by decide +kernel, by decide +kernel⟩
abbrev s_less : Stmt := topS 7
abbrev N_less : List Str := ["a", "b"]
theorem sc_less : FnScope N_less ["a", "b"] (defScope s_less) := ⟨rfl, rfl, rfl, by decide +kernel, rfl, by decide +kernel, by decide +kernel⟩
abbrev s_sign : Stmt := topS 8
abbrev N_sign : List Str := ["a"]
theorem sc_sign : FnScope N_sign ["a"] (defScope s_sign) := ⟨rfl, rfl, rfl, by decide +kernel, rfl, by decide +kernel, by decide +kernel⟩
abbrev s_lowest : Stmt := topS 9
abbrev N_lowest : List Str := ["integers", "divisor", "n"]
theorem sc_lowest : FnScope N_lowest ["integers"] (defScope s_lowest) := ⟨rfl, rfl, rfl, by decide +kernel, rfl, by decide +kernel, by decide +kernel⟩
abbrev s_together : Stmt := topS 10
abbrev N_together : List Str := ["numbers", "scale", "a"]
theorem sc_together : FnScope N_together ["numbers"] (defScope s_together) := ⟨rfl, rfl, rfl, by decide +kernel, rfl, by decide +kernel, by decide +kernel⟩
abbrev s_brought : Stmt := topS 11
abbrev N_brought : List Str := ["numbers", "integers", "_"]
theorem sc_brought : FnScope N_brought ["numbers"] (defScope s_brought) := ⟨rfl, rfl, rfl, by decide +kernel, rfl, by decide +kernel, by decide +kernel⟩
abbrev s_u_law_cell : Stmt := topS 13
abbrev N_u_law_cell : List Str := ["script", "k"]
theorem sc_u_law_cell : FnScope N_u_law_cell ["script", "k"] (defScope s_u_law_cell) := ⟨rfl, rfl, rfl, by decide +kernel, rfl, by decide +kernel, by decide +kernel⟩
abbrev s_u_law_parts : Stmt := topS 14
abbrev N_u_law_parts : List Str := ["cell", "sizes", "parts", "left", "k", "mixed"]
theorem sc_u_law_parts : FnScope N_u_law_parts ["cell", "sizes"] (defScope s_u_law_parts) := ⟨rfl, rfl, rfl, by decide +kernel, rfl, by decide +kernel, by decide +kernel⟩
abbrev s_u_law_is_integer : Stmt := topS 15
abbrev N_u_law_is_integer : List Str := ["actual"]
theorem sc_u_law_is_integer : FnScope N_u_law_is_integer ["actual"] (defScope s_u_law_is_integer) := ⟨rfl, rfl, rfl, by decide +kernel, rfl, by decide +kernel, by decide +kernel⟩
abbrev s_u_law_divisor : Stmt := topS 16
abbrev N_u_law_divisor : List Str := ["a", "b", "k"]
theorem sc_u_law_divisor : FnScope N_u_law_divisor ["a", "b"] (defScope s_u_law_divisor) := ⟨rfl, rfl, rfl, by decide +kernel, rfl, by decide +kernel, by decide +kernel⟩
abbrev s_u_law_number : Stmt := topS 17
abbrev N_u_law_number : List Str := ["n", "d", "divisor"]
theorem sc_u_law_number : FnScope N_u_law_number ["n", "d"] (defScope s_u_law_number) := ⟨rfl, rfl, rfl, by decide +kernel, rfl, by decide +kernel, by decide +kernel⟩
abbrev s_u_law_plus : Stmt := topS 18
abbrev N_u_law_plus : List Str := ["a", "b"]
theorem sc_u_law_plus : FnScope N_u_law_plus ["a", "b"] (defScope s_u_law_plus) := ⟨rfl, rfl, rfl, by decide +kernel, rfl, by decide +kernel, by decide +kernel⟩
abbrev s_u_law_times : Stmt := topS 19
abbrev N_u_law_times : List Str := ["a", "b"]
theorem sc_u_law_times : FnScope N_u_law_times ["a", "b"] (defScope s_u_law_times) := ⟨rfl, rfl, rfl, by decide +kernel, rfl, by decide +kernel, by decide +kernel⟩
abbrev s_u_law_less : Stmt := topS 20
abbrev N_u_law_less : List Str := ["a", "b"]
theorem sc_u_law_less : FnScope N_u_law_less ["a", "b"] (defScope s_u_law_less) := ⟨rfl, rfl, rfl, by decide +kernel, rfl, by decide +kernel, by decide +kernel⟩
abbrev s_u_law_is_same : Stmt := topS 22
abbrev N_u_law_is_same : List Str := ["actual", "due"]
theorem sc_u_law_is_same : FnScope N_u_law_is_same ["actual", "due"] (defScope s_u_law_is_same) := ⟨rfl, rfl, rfl, by decide +kernel, rfl, by decide +kernel, by decide +kernel⟩
abbrev s_u_law_pair : Stmt := topS 23
abbrev N_u_law_pair : List Str := ["parts", "at", "size", "n", "d"]
theorem sc_u_law_pair : FnScope N_u_law_pair ["parts", "at"] (defScope s_u_law_pair) := ⟨rfl, rfl, rfl, by decide +kernel, rfl, by decide +kernel, by decide +kernel⟩
abbrev s_u_law_right_lists : Stmt := topS 24
abbrev N_u_law_right_lists : List Str := ["parts", "integers", "divisor", "part", "due", "kept", "numbers", "common", "raised", "k"]
theorem sc_u_law_right_lists : FnScope N_u_law_right_lists ["parts"] (defScope s_u_law_right_lists) := ⟨rfl, rfl, rfl, by decide +kernel, rfl, by decide +kernel, by decide +kernel⟩
abbrev s_law : Stmt := topS 25
abbrev N_law : List Str := ["script", "parts", "a", "b", "first", "second"]
theorem sc_law : FnScope N_law ["script"] (defScope s_law) := ⟨rfl, rfl, rfl, by decide +kernel, rfl, by decide +kernel, by decide +kernel⟩
structure Txt (K : PySem.W.Frag) (mg : Str → Option Value) where
  f_number : Addr
  fd_number : FuncData
  F_number : Fun K "number" "number" s_number f_number fd_number
  g_number : mg "number" = some (.ref f_number)
  b_number : Binds K fd_number ["n", "d"] []
  f_plus : Addr
  fd_plus : FuncData
  F_plus : Fun K "plus" "plus" s_plus f_plus fd_plus
  g_plus : mg "plus" = some (.ref f_plus)
  b_plus : Binds K fd_plus ["a", "b"] []
  f_minus : Addr
  fd_minus : FuncData
  F_minus : Fun K "minus" "minus" s_minus f_minus fd_minus
  g_minus : mg "minus" = some (.ref f_minus)
  b_minus : Binds K fd_minus ["a", "b"] []
  f_times : Addr
  fd_times : FuncData
  F_times : Fun K "times" "times" s_times f_times fd_times
  g_times : mg "times" = some (.ref f_times)
  b_times : Binds K fd_times ["a", "b"] []
  f_over : Addr
  fd_over : FuncData
  F_over : Fun K "over" "over" s_over f_over fd_over
  g_over : mg "over" = some (.ref f_over)
  b_over : Binds K fd_over ["a", "b"] []
  f_less : Addr
  fd_less : FuncData
  F_less : Fun K "less" "less" s_less f_less fd_less
  g_less : mg "less" = some (.ref f_less)
  b_less : Binds K fd_less ["a", "b"] []
  f_sign : Addr
  fd_sign : FuncData
  F_sign : Fun K "sign" "sign" s_sign f_sign fd_sign
  g_sign : mg "sign" = some (.ref f_sign)
  b_sign : Binds K fd_sign ["a"] []
  f_lowest : Addr
  fd_lowest : FuncData
  F_lowest : Fun K "lowest" "lowest" s_lowest f_lowest fd_lowest
  g_lowest : mg "lowest" = some (.ref f_lowest)
  b_lowest : Binds K fd_lowest ["integers"] []
  f_together : Addr
  fd_together : FuncData
  F_together : Fun K "together" "together" s_together f_together fd_together
  g_together : mg "together" = some (.ref f_together)
  b_together : Binds K fd_together ["numbers"] []
  f_brought : Addr
  fd_brought : FuncData
  F_brought : Fun K "brought" "brought" s_brought f_brought fd_brought
  g_brought : mg "brought" = some (.ref f_brought)
  b_brought : Binds K fd_brought ["numbers"] []
  f_u_law_cell : Addr
  fd_u_law_cell : FuncData
  F_u_law_cell : Fun K "_law_cell" "_law_cell" s_u_law_cell f_u_law_cell fd_u_law_cell
  g_u_law_cell : mg "_law_cell" = some (.ref f_u_law_cell)
  b_u_law_cell : Binds K fd_u_law_cell ["script", "k"] []
  f_u_law_parts : Addr
  fd_u_law_parts : FuncData
  F_u_law_parts : Fun K "_law_parts" "_law_parts" s_u_law_parts f_u_law_parts fd_u_law_parts
  g_u_law_parts : mg "_law_parts" = some (.ref f_u_law_parts)
  b_u_law_parts : Binds K fd_u_law_parts ["cell", "sizes"] []
  f_u_law_is_integer : Addr
  fd_u_law_is_integer : FuncData
  F_u_law_is_integer : Fun K "_law_is_integer" "_law_is_integer" s_u_law_is_integer f_u_law_is_integer fd_u_law_is_integer
  g_u_law_is_integer : mg "_law_is_integer" = some (.ref f_u_law_is_integer)
  b_u_law_is_integer : Binds K fd_u_law_is_integer ["actual"] []
  f_u_law_divisor : Addr
  fd_u_law_divisor : FuncData
  F_u_law_divisor : Fun K "_law_divisor" "_law_divisor" s_u_law_divisor f_u_law_divisor fd_u_law_divisor
  g_u_law_divisor : mg "_law_divisor" = some (.ref f_u_law_divisor)
  b_u_law_divisor : Binds K fd_u_law_divisor ["a", "b"] []
  f_u_law_number : Addr
  fd_u_law_number : FuncData
  F_u_law_number : Fun K "_law_number" "_law_number" s_u_law_number f_u_law_number fd_u_law_number
  g_u_law_number : mg "_law_number" = some (.ref f_u_law_number)
  b_u_law_number : Binds K fd_u_law_number ["n", "d"] []
  f_u_law_plus : Addr
  fd_u_law_plus : FuncData
  F_u_law_plus : Fun K "_law_plus" "_law_plus" s_u_law_plus f_u_law_plus fd_u_law_plus
  g_u_law_plus : mg "_law_plus" = some (.ref f_u_law_plus)
  b_u_law_plus : Binds K fd_u_law_plus ["a", "b"] []
  f_u_law_times : Addr
  fd_u_law_times : FuncData
  F_u_law_times : Fun K "_law_times" "_law_times" s_u_law_times f_u_law_times fd_u_law_times
  g_u_law_times : mg "_law_times" = some (.ref f_u_law_times)
  b_u_law_times : Binds K fd_u_law_times ["a", "b"] []
  f_u_law_less : Addr
  fd_u_law_less : FuncData
  F_u_law_less : Fun K "_law_less" "_law_less" s_u_law_less f_u_law_less fd_u_law_less
  g_u_law_less : mg "_law_less" = some (.ref f_u_law_less)
  b_u_law_less : Binds K fd_u_law_less ["a", "b"] []
  f_u_law_is_same : Addr
  fd_u_law_is_same : FuncData
  F_u_law_is_same : Fun K "_law_is_same" "_law_is_same" s_u_law_is_same f_u_law_is_same fd_u_law_is_same
  g_u_law_is_same : mg "_law_is_same" = some (.ref f_u_law_is_same)
  b_u_law_is_same : Binds K fd_u_law_is_same ["actual", "due"] []
  f_u_law_pair : Addr
  fd_u_law_pair : FuncData
  F_u_law_pair : Fun K "_law_pair" "_law_pair" s_u_law_pair f_u_law_pair fd_u_law_pair
  g_u_law_pair : mg "_law_pair" = some (.ref f_u_law_pair)
  b_u_law_pair : Binds K fd_u_law_pair ["parts", "at"] []
  f_u_law_right_lists : Addr
  fd_u_law_right_lists : FuncData
  F_u_law_right_lists : Fun K "_law_right_lists" "_law_right_lists" s_u_law_right_lists f_u_law_right_lists fd_u_law_right_lists
  g_u_law_right_lists : mg "_law_right_lists" = some (.ref f_u_law_right_lists)
  b_u_law_right_lists : Binds K fd_u_law_right_lists ["parts"] []
  f_law : Addr
  fd_law : FuncData
  F_law : Fun K "law" "law" s_law f_law fd_law
  g_law : mg "law" = some (.ref f_law)
  z_abs : mg "abs" = none
  z_bool : mg "bool" = none
  z_int : mg "int" = none
  z_isinstance : mg "isinstance" = none
  z_len : mg "len" = none
  z_list : mg "list" = none
  z_max : mg "max" = none
  z_range : mg "range" = none
  z_tuple : mg "tuple" = none
  i_gcd : mg "gcd" = some (.builtin "math.gcd")
  i_lcm : mg "lcm" = some (.builtin "math.lcm")
section
variable {P : Program} {w : World} {K : PySem.W.Frag} {mg : Str → Option Value} {base : Heap}
/-! ### the program's numbers -/
def R_number (ds : List D) (d : D) : Prop := ∃ n m : Int, ds = [.int n, .int m] ∧ m ≠ 0 ∧ Lt 8000 m ∧ d = numV (nrm n m)
theorem dvs_lt {n m : Int} {k : Nat} (h : m ≠ 0) (hl : Lt k m) : Lt k (dvs n m) := by
  unfold Lt
  rw [dvs_abs]
  exact Nat.lt_of_le_of_lt (gcd_le h) hl
theorem ok_number (T : Txt K mg) : FnOk P w K mg base CX0 1 T.f_number T.fd_number ["n", "d"] (spD K R_number) := by
  refine ok_wp T.F_number sc_number ?_ (fun cdv A outer s H E hr => ⟨_, (pss_cons (ps_set (i := 2) sc_number.nd rfl (by first | exact Or.inl rfl | exact Or.inr rfl) (pe_callBfun cr_gcd (by rfl) T.i_gcd (pa_cons (pv 0) (pa_cons (pv 1) pa_nil))))
      (pss_cons (ps_if (pt_cmpR op_lt (pv 1) pe_int (nomark _)) (pss_one (ps_set (i := 2) sc_number.nd rfl (by first | exact Or.inl rfl | exact Or.inr rfl) (pe_un un_neg (pv 2)))) pss_nil)
      (pss_one (ps_ret (pe_tup (pa_cons (pe_op op_fdivX (pv 0) (pv 2)) (pa_cons (pe_op op_fdivX (pv 1) (pv 2)) pa_nil))))))), ?_⟩)
  all_goals (try simp only [nox_K, blk_K, cx_K])
  · rintro ds d ⟨n, m, rfl, _⟩; rfl
  · rintro ds d ⟨n, m, rfl, hm, hl, rfl⟩
    have c1 : ∀ i, CDivX i (dvs n m) := fun i => divX (dvs_ne hm) (dvs_lt hm hl)
    refine wp_seq (wp_asg (by walk_at "ev") ?_)
    refine wp_seq (wp_cut (fun δ => δ = [.val (.int n), .val (.int m), .val (.int (dvs n m))]) (wp_if (by walk_at "ev") (fun h => ?_) (fun h => ?_)) ?_)
    · have h : m < 0 := of_decide_eq_true h
      refine wp_asg (by walk_at "ev") ?_
      show _ = _
      unfold dvs
      rw [if_pos h]
      rfl
    · have h : ¬ m < 0 := of_decide_eq_false h
      refine wp_next ?_
      show _ = _
      unfold dvs
      rw [if_neg h]
      rfl
    · rintro δ rfl
      refine wp_ret (by repeat' first | walk_at "ev2" | exact c1 _ | fail) ?_
      rfl
def Sm (k : Nat) (a : Int × Int) : Prop := Lt k a.1 ∧ Lt k a.2 ∧ a.2 ≠ 0
def R_plus (ds : List D) (d : D) : Prop := ∃ a b : Int × Int, ds = [numV a, numV b] ∧ Sm 3900 a ∧ Sm 3900 b ∧ d = numV (nrm (a.1 * b.2 + b.1 * a.2) (a.2 * b.2))
theorem ok_plus (T : Txt K mg) : FnOk P w K mg base CX0 2 T.f_plus T.fd_plus ["a", "b"] (spD K R_plus) := by
  refine ok_wp T.F_plus sc_plus ?_ (fun cdv A outer s H E hr => ⟨_, (pss_one (ps_ret (pe_call (ok_number T) (hr.mono (by decide)) (by rfl) T.g_number T.F_number.kp T.b_number .nil pass0 (pa_cons (pe_op op_add (pe_op op_mulX (pe_ix (kx_ix (K := K)) (pv 0) pe_int (fun _ _ => rfl)) (pe_ix (kx_ix (K := K)) (pv 1) pe_int (fun _ _ => rfl))) (pe_op op_mulX (pe_ix (kx_ix (K := K)) (pv 1) pe_int (fun _ _ => rfl)) (pe_ix (kx_ix (K := K)) (pv 0) pe_int (fun _ _ => rfl)))) (pa_cons (pe_op op_mulX (pe_ix (kx_ix (K := K)) (pv 0) pe_int (fun _ _ => rfl)) (pe_ix (kx_ix (K := K)) (pv 1) pe_int (fun _ _ => rfl))) pa_nil))))), ?_⟩)
  all_goals (try simp only [nox_K, blk_K, cx_K])
  · rintro ds d ⟨a, b, rfl, _⟩; rfl
  · rintro ds d ⟨a, b, rfl, ⟨a1, a2, a0⟩, ⟨b1, b2, b0⟩, rfl⟩
    have h0 : a.2 * b.2 ≠ 0 := Int.mul_ne_zero a0 b0
    have hl : Lt 8000 (a.2 * b.2) := (a2.mul b2).mono
    refine wp_ret (by repeat' first | walk_at "ev2" | exact mulX a1 b2 | exact mulX b1 a2 | exact mulX a2 b2 | exact ⟨_, _, rfl, h0, hl, rfl⟩ | fail) ?_
    rfl
def R_minus (ds : List D) (d : D) : Prop := ∃ a b : Int × Int, ds = [numV a, numV b] ∧ Sm 3900 a ∧ Sm 3900 b ∧ d = numV (nrm (a.1 * b.2 - b.1 * a.2) (a.2 * b.2))
theorem ok_minus (T : Txt K mg) : FnOk P w K mg base CX0 2 T.f_minus T.fd_minus ["a", "b"] (spD K R_minus) := by
  refine ok_wp T.F_minus sc_minus ?_ (fun cdv A outer s H E hr => ⟨_, (pss_one (ps_ret (pe_call (ok_number T) (hr.mono (by decide)) (by rfl) T.g_number T.F_number.kp T.b_number .nil pass0 (pa_cons (pe_op op_sub (pe_op op_mulX (pe_ix (kx_ix (K := K)) (pv 0) pe_int (fun _ _ => rfl)) (pe_ix (kx_ix (K := K)) (pv 1) pe_int (fun _ _ => rfl))) (pe_op op_mulX (pe_ix (kx_ix (K := K)) (pv 1) pe_int (fun _ _ => rfl)) (pe_ix (kx_ix (K := K)) (pv 0) pe_int (fun _ _ => rfl)))) (pa_cons (pe_op op_mulX (pe_ix (kx_ix (K := K)) (pv 0) pe_int (fun _ _ => rfl)) (pe_ix (kx_ix (K := K)) (pv 1) pe_int (fun _ _ => rfl))) pa_nil))))), ?_⟩)
  all_goals (try simp only [nox_K, blk_K, cx_K])
  · rintro ds d ⟨a, b, rfl, _⟩; rfl
  · rintro ds d ⟨a, b, rfl, ⟨a1, a2, a0⟩, ⟨b1, b2, b0⟩, rfl⟩
    have h0 : a.2 * b.2 ≠ 0 := Int.mul_ne_zero a0 b0
    have hl : Lt 8000 (a.2 * b.2) := (a2.mul b2).mono
    refine wp_ret (by repeat' first | walk_at "ev2" | exact mulX a1 b2 | exact mulX b1 a2 | exact mulX a2 b2 | exact ⟨_, _, rfl, h0, hl, rfl⟩ | fail) ?_
    rfl
def R_times (ds : List D) (d : D) : Prop := ∃ a b : Int × Int, ds = [numV a, numV b] ∧ Sm 3900 a ∧ Sm 3900 b ∧ d = numV (nrm (a.1 * b.1) (a.2 * b.2))
theorem ok_times (T : Txt K mg) : FnOk P w K mg base CX0 2 T.f_times T.fd_times ["a", "b"] (spD K R_times) := by
  refine ok_wp T.F_times sc_times ?_ (fun cdv A outer s H E hr => ⟨_, (pss_one (ps_ret (pe_call (ok_number T) (hr.mono (by decide)) (by rfl) T.g_number T.F_number.kp T.b_number .nil pass0 (pa_cons (pe_op op_mulX (pe_ix (kx_ix (K := K)) (pv 0) pe_int (fun _ _ => rfl)) (pe_ix (kx_ix (K := K)) (pv 1) pe_int (fun _ _ => rfl))) (pa_cons (pe_op op_mulX (pe_ix (kx_ix (K := K)) (pv 0) pe_int (fun _ _ => rfl)) (pe_ix (kx_ix (K := K)) (pv 1) pe_int (fun _ _ => rfl))) pa_nil))))), ?_⟩)
  all_goals (try simp only [nox_K, blk_K, cx_K])
  · rintro ds d ⟨a, b, rfl, _⟩; rfl
  · rintro ds d ⟨a, b, rfl, ⟨a1, a2, a0⟩, ⟨b1, b2, b0⟩, rfl⟩
    have h0 : a.2 * b.2 ≠ 0 := Int.mul_ne_zero a0 b0
    have hl : Lt 8000 (a.2 * b.2) := (a2.mul b2).mono
    refine wp_ret (by repeat' first | walk_at "ev2" | exact mulX a1 b1 | exact mulX a2 b2 | exact ⟨_, _, rfl, h0, hl, rfl⟩ | fail) ?_
    rfl
def R_over (ds : List D) (d : D) : Prop := ∃ a b : Int × Int, ds = [numV a, numV b] ∧ Sm 3900 a ∧ Sm 3900 b ∧ b.1 ≠ 0 ∧ d = numV (nrm (a.1 * b.2) (a.2 * b.1))
theorem ok_over (T : Txt K mg) : FnOk P w K mg base CX0 2 T.f_over T.fd_over ["a", "b"] (spD K R_over) := by
  refine ok_wp T.F_over sc_over ?_ (fun cdv A outer s H E hr => ⟨_, (pss_one (ps_ret (pe_call (ok_number T) (hr.mono (by decide)) (by rfl) T.g_number T.F_number.kp T.b_number .nil pass0 (pa_cons (pe_op op_mulX (pe_ix (kx_ix (K := K)) (pv 0) pe_int (fun _ _ => rfl)) (pe_ix (kx_ix (K := K)) (pv 1) pe_int (fun _ _ => rfl))) (pa_cons (pe_op op_mulX (pe_ix (kx_ix (K := K)) (pv 0) pe_int (fun _ _ => rfl)) (pe_ix (kx_ix (K := K)) (pv 1) pe_int (fun _ _ => rfl))) pa_nil))))), ?_⟩)
  all_goals (try simp only [nox_K, blk_K, cx_K])
  · rintro ds d ⟨a, b, rfl, _⟩; rfl
  · rintro ds d ⟨a, b, rfl, ⟨a1, a2, a0⟩, ⟨b1, b2, b0⟩, hb, rfl⟩
    have h0 : a.2 * b.1 ≠ 0 := Int.mul_ne_zero a0 hb
    have hl : Lt 8000 (a.2 * b.1) := (a2.mul b1).mono
    refine wp_ret (by repeat' first | walk_at "ev2" | exact mulX a1 b2 | exact mulX a2 b1 | exact ⟨_, _, rfl, h0, hl, rfl⟩ | fail) ?_
    rfl
def R_less (ds : List D) (d : D) : Prop := ∃ a b : Int × Int, ds = [numV a, numV b] ∧ Sm 3900 a ∧ Sm 3900 b ∧ d = .bool (decide (a.1 * b.2 < b.1 * a.2))
theorem ok_less (T : Txt K mg) : FnOk P w K mg base CX0 1 T.f_less T.fd_less ["a", "b"] (spD K R_less) := by
  refine ok_wp T.F_less sc_less ?_ (fun cdv A outer s H E hr => ⟨_, (pss_one (ps_ret (pe_cmpR op_lt (pe_op op_mulX (pe_ix (kx_ix (K := K)) (pv 0) pe_int (fun _ _ => rfl)) (pe_ix (kx_ix (K := K)) (pv 1) pe_int (fun _ _ => rfl))) (pe_op op_mulX (pe_ix (kx_ix (K := K)) (pv 1) pe_int (fun _ _ => rfl)) (pe_ix (kx_ix (K := K)) (pv 0) pe_int (fun _ _ => rfl))) (nomark _)))), ?_⟩)
  all_goals (try simp only [nox_K, blk_K, cx_K])
  · rintro ds d ⟨a, b, rfl, _⟩; rfl
  · rintro ds d ⟨a, b, rfl, ⟨a1, a2, a0⟩, ⟨b1, b2, b0⟩, rfl⟩
    refine wp_ret (by repeat' first | walk_at "ev2" | exact mulX a1 b2 | exact mulX b1 a2 | fail) ?_
    rfl
def sgnI (n : Int) : Int := if 0 < n then 1 else if n < 0 then -1 else 0
def R_sign (ds : List D) (d : D) : Prop := ∃ a : Int × Int, ds = [numV a] ∧ d = .int (sgnI a.1)
theorem ok_sign (T : Txt K mg) : FnOk P w K mg base CX0 1 T.f_sign T.fd_sign ["a"] (spD K R_sign) := by
  refine ok_wp T.F_sign sc_sign ?_ (fun cdv A outer s H E hr => ⟨_, (pss_cons (ps_if (pt_cmpR op_gt (pe_ix (kx_ix (K := K)) (pv 0) pe_int (fun _ _ => rfl)) pe_int (nomark _)) (pss_one (ps_ret pe_int)) pss_nil)
      (pss_cons (ps_if (pt_cmpR op_lt (pe_ix (kx_ix (K := K)) (pv 0) pe_int (fun _ _ => rfl)) pe_int (nomark _)) (pss_one (ps_ret (pe_un un_neg pe_int))) pss_nil)
      (pss_one (ps_ret pe_int)))), ?_⟩)
  all_goals (try simp only [nox_K, blk_K, cx_K])
  · rintro ds d ⟨a, rfl, _⟩; rfl
  · rintro ds d ⟨a, rfl, rfl⟩
    refine wp_seq (wp_if (by walk_at "ev") (fun h => ?_) (fun h => ?_))
    · have h : 0 < a.1 := of_decide_eq_true h
      refine wp_ret (by walk_at "ev") ?_
      show _ = _
      rw [sgnI, if_pos h]
    · have h : ¬ 0 < a.1 := of_decide_eq_false h
      refine wp_next ?_
      refine wp_seq (wp_if (by walk_at "ev") (fun h' => ?_) (fun h' => ?_))
      · have h' : a.1 < 0 := of_decide_eq_true h'
        refine wp_ret (by walk_at "ev") ?_
        show _ = _
        rw [sgnI, if_neg h, if_pos h']
      · have h' : ¬ a.1 < 0 := of_decide_eq_false h'
        refine wp_next ?_
        refine wp_ret (by walk_at "ev") ?_
        show _ = _
        rw [sgnI, if_neg h, if_neg h']

/-! ### the law's own helpers -/
def R_cell (ds : List D) (d : D) : Prop := ∃ (ns : List Int) (k : Nat), ds = [.list (ns.map PyData.int), .int k] ∧ d = .int (ns.getD k 0)
theorem atI_map {α : Type} {xs : List α} {g : α → D} {k : Nat} {x : α} (h : xs[k]? = some x) : atI (xs.map g) (k : Int) = some (g x) := atI_nat (by rw [List.getElem?_map, h]; rfl)
theorem ok_u_law_cell (T : Txt K mg) : FnOk P w K mg base CX0 1 T.f_u_law_cell T.fd_u_law_cell ["script", "k"] (spD K R_cell) := by
  refine ok_wp T.F_u_law_cell sc_u_law_cell ?_ (fun cdv A outer s H E hr => ⟨_, (pss_cons (ps_if (pt_cmpR op_lt (pv 1) (pe_callB (kx_len (K := K)) (by rfl) T.z_len (by decide +kernel) (pa_cons (pv 0) pa_nil)) (nomark _)) (pss_one (ps_ret (pe_ix (kx_ix (K := K)) (pv 0) (pv 1) (fun _ _ => rfl)))) pss_nil)
      (pss_one (ps_ret pe_int))), ?_⟩)
  all_goals (try simp only [nox_K, blk_K, cx_K])
  · rintro ds d ⟨ns, k, rfl, _⟩; rfl
  · rintro ds d ⟨ns, k, rfl, rfl⟩
    refine wp_seq (wp_if (by walk_at "ev") (fun h => ?_) (fun h => ?_))
    · have h : (k : Int) < ((ns.map PyData.int).length : Nat) := of_decide_eq_true h
      rw [List.length_map] at h
      have hk : k < ns.length := by omega
      refine wp_ret (d := .int ns[k]) (by walk_at "ev"; exact atI_map (List.getElem?_eq_getElem hk)) ?_
      show PyData.int _ = .int _
      rw [List.getD_eq_getElem?_getD, List.getElem?_eq_getElem hk]
      rfl
    · have h : ¬ (k : Int) < ((ns.map PyData.int).length : Nat) := of_decide_eq_false h
      rw [List.length_map] at h
      refine wp_next (wp_ret (by walk_at "ev") ?_)
      show PyData.int _ = .int _
      rw [List.getD_eq_getElem?_getD, List.getElem?_eq_none (by omega)]
      rfl
def mixM (cell : Int) (k : Nat) : Int :=
  let m1 := (cell * 48271 + (k : Int) * 69621 + 11) % 2147483647
  ((m1 * m1 + 16807 * (k : Int) + 5) % 998244353).fdiv 7
def partsM (cell : Int) : List Int → Nat → Int → List Int
  | [], _, _ => []
  | s :: ss, k, left => (if left ≥ 0 then left % s else mixM cell k % s) :: partsM cell ss (k + 1) (if left ≥ 0 then left.fdiv s else left)
def partsOf (cell : Int) (sizes : List Int) : List Int := partsM cell sizes 0 (cell - 10 ^ 18)
def R_parts (ds : List D) (d : D) : Prop := ∃ (cell : Int) (sizes : List Int), ds = [.int cell, .list (sizes.map PyData.int)] ∧ (∀ s ∈ sizes, 0 < s ∧ Lt 8000 s) ∧ sizes.length ≤ 1000 ∧ d = .list ((partsOf cell sizes).map PyData.int)
theorem ok_u_law_parts (T : Txt K mg) : FnOk P w K mg base CX0 1 T.f_u_law_parts T.fd_u_law_parts ["cell", "sizes"] (spD K R_parts) := by
  refine ok_wp T.F_u_law_parts sc_u_law_parts ?_ (fun cdv A outer s H E hr => ⟨_, (pss_cons (ps_set (i := 2) sc_u_law_parts.nd rfl (by first | exact Or.inl rfl | exact Or.inr rfl) (pe_lst pa_nil))
      (pss_cons (ps_set (i := 3) sc_u_law_parts.nd rfl (by first | exact Or.inl rfl | exact Or.inr rfl) (pe_op op_sub (pv 0) (pe_op op_pow pe_int pe_int)))
      (pss_cons (ps_for PassesOwn.never rfl (pi_range1 (by rfl) T.z_range (pa_cons (pe_callB (kx_len (K := K)) (by rfl) T.z_len (by decide +kernel) (pa_cons (pv 1) pa_nil)) pa_nil)) (pg_name (i := 4) sc_u_law_parts.nd rfl (by first | exact Or.inl rfl | exact Or.inr rfl))
      (pss_one (ps_if (pt_cmpR op_ge (pv 3) pe_int (nomark _)) (pss_cons (ps_expr (pe_bm PySem.F.plainAttrs_list PySem.F.slot_list_append PySem.F.type_list_append mt_append (pv 2) (pa_cons (pe_op op_mod (pe_callTy cr_intQ (by rfl) T.z_int (by decide +kernel) (pa_cons (pv 3) pa_nil)) (pe_ix (kx_ix (K := K)) (pv 1) (pv 4) (fun _ _ => rfl))) pa_nil)))
      (pss_one (ps_set (i := 3) sc_u_law_parts.nd rfl (by first | exact Or.inl rfl | exact Or.inr rfl) (pe_op op_fdivX (pv 3) (pe_ix (kx_ix (K := K)) (pv 1) (pv 4) (fun _ _ => rfl)))))) (pss_cons (ps_set (i := 5) sc_u_law_parts.nd rfl (by first | exact Or.inl rfl | exact Or.inr rfl) (pe_op op_mod (pe_callTy cr_intQ (by rfl) T.z_int (by decide +kernel) (pa_cons (pe_op op_add (pe_op op_add (pe_op op_mulX (pv 0) pe_int) (pe_op op_mulX (pv 4) pe_int)) pe_int) pa_nil)) pe_int))
      (pss_cons (ps_set (i := 5) sc_u_law_parts.nd rfl (by first | exact Or.inl rfl | exact Or.inr rfl) (pe_op op_mod (pe_callTy cr_intQ (by rfl) T.z_int (by decide +kernel) (pa_cons (pe_op op_add (pe_op op_add (pe_op op_mulX (pv 5) (pv 5)) (pe_op op_mulX pe_int (pv 4))) pe_int) pa_nil)) pe_int))
      (pss_one (ps_expr (pe_bm PySem.F.plainAttrs_list PySem.F.slot_list_append PySem.F.type_list_append mt_append (pv 2) (pa_cons (pe_op op_mod (pe_callTy cr_intQ (by rfl) T.z_int (by decide +kernel) (pa_cons (pe_op op_fdivX (pv 5) pe_int) pa_nil)) (pe_ix (kx_ix (K := K)) (pv 1) (pv 4) (fun _ _ => rfl))) pa_nil)))))))))
      (pss_one (ps_ret (pv 2)))))), ?_⟩)
  all_goals (try simp only [nox_K, blk_K, cx_K])
  · rintro ds d ⟨cell, sizes, rfl, _⟩; rfl
  · rintro ds d ⟨cell, sizes, rfl, hs, hl, rfl⟩
    refine wp_seq (wp_asgN (by walk_at "ev") ?_)
    refine wp_seq (wp_asg (ED.of (d' := .int (cell - 10 ^ 18)) (by walk_at "ev") rfl) ?_)
    refine wp_seq (wp_forG (xs := List.range sizes.length) (g := fun k => PyData.int (k : Nat))
      (fun k δ => ∃ (ps : List Int) (left : Int) (z w : SV), δ = [.val (.int cell), .val (.list (sizes.map PyData.int)), .own (ps.map PyData.int), .val (.int left), z, w] ∧ k ≤ sizes.length ∧ ps.length = k ∧ ps ++ partsM cell (sizes.drop k) k left = partsOf cell sizes)
      (by repeat' first | walk_at "ev2" | (show (_ : Int) = _; rw [List.length_map]; done) | (show (_ : Nat) ≤ _; omega) | fail) ⟨[], _, _, _, rfl, Nat.zero_le _, rfl, by rw [List.drop_zero]; rfl⟩ ?_ ?_)
    · rintro k x δ ex ⟨ps, left, z, w, rfl, hk, hp, inv⟩
      have hk2 : k < sizes.length := by
        have := (List.getElem?_eq_some_iff.mp ex).1
        rwa [List.length_range] at this
      have hx : x = k := by
        rw [List.getElem?_range hk2] at ex
        exact (Option.some.inj ex).symm
      subst hx
      obtain ⟨s0, s1⟩ := hs sizes[x] (List.getElem_mem hk2)
      have at1 : atI (sizes.map PyData.int) (x : Int) = some (.int sizes[x]) := atI_map (List.getElem?_eq_getElem hk2)
      rw [List.drop_eq_getElem_cons hk2] at inv
      refine wp_if (by walk_at "ev") (fun h => ?_) (fun h => ?_)
      · have h : left ≥ 0 := of_decide_eq_true h
        refine wp_seq (wp_app (d := .int (left % sizes[x])) rfl (by repeat' first | walk_at "ev2" | exact at1 | exact s0 | fail) (by rw [List.length_map]; exact small1000 (by omega)) ?_)
        refine wp_asg (by repeat' first | walk_at "ev2" | exact at1 | exact divX (by omega) s1 | fail) ?_
        refine ⟨ps ++ [left % sizes[x]], left.fdiv sizes[x], .val (.int x), w, ?_, hk2, by rw [List.length_append, hp]; rfl, ?_⟩
        · rw [List.map_append]; rfl
        · rw [← inv, partsM, if_pos h, if_pos h, List.append_assoc]; rfl
      · have h : ¬ left ≥ 0 := of_decide_eq_false h
        refine wp_seq (wp_asg (by repeat' first | walk_at "ev2" | (show (0 : Int) < _; decide) | exact mulR (by decide) | exact mulR (by omega) | fail) ?_)
        have m0 : 0 ≤ (cell * 48271 + (x : Int) * 69621 + 11) % 2147483647 := Int.emod_nonneg _ (by decide)
        have m1 : (cell * 48271 + (x : Int) * 69621 + 11) % 2147483647 < 2147483647 := Int.emod_lt_of_pos _ (by decide)
        refine wp_seq (wp_asg (by repeat' first | walk_at "ev2" | (show (0 : Int) < _; decide) | exact mulL (by decide) | exact mulL (by omega) | fail) ?_)
        refine wp_app (d := .int (mixM cell x % sizes[x])) rfl (by repeat' first | walk_at "ev2" | exact at1 | exact s0 | exact divX (k := 10) (by decide) (by unfold Lt; decide) | fail) (by rw [List.length_map]; exact small1000 (by omega)) ?_
        refine ⟨ps ++ [mixM cell x % sizes[x]], left, .val (.int x), .val (.int ((((cell * 48271 + (x : Int) * 69621 + 11) % 2147483647) * ((cell * 48271 + (x : Int) * 69621 + 11) % 2147483647) + 16807 * (x : Int) + 5) % 998244353)), ?_, hk2, by rw [List.length_append, hp]; rfl, ?_⟩
        · rw [List.map_append]; rfl
        · rw [← inv, partsM, if_neg h, if_neg h, List.append_assoc]; rfl
    · rintro δ ⟨ps, left, z, w, rfl, hk, hp, inv⟩
      rw [List.length_range] at hp inv
      rw [List.drop_length, partsM, List.append_nil] at inv
      refine wp_retOwn rfl ?_
      show _ = _
      rw [inv]
def R_isInt (ds : List D) (d : D) : Prop := ∃ i : Int, ds = [.int i] ∧ d = .bool true
theorem ok_u_law_is_integer (T : Txt K mg) : FnOk P w K mg base CX0 1 T.f_u_law_is_integer T.fd_u_law_is_integer ["actual"] (spD K R_isInt) := by
  refine ok_wp T.F_u_law_is_integer sc_u_law_is_integer ?_ (fun cdv A outer s H E hr => ⟨_, (pss_one (ps_ret (pe_and (pe_callB (kx_isi (K := K)) (by rfl) T.z_isinstance (by decide +kernel) (pa_cons (pv 0) (pa_cons (pe_bltn (v := .ty "int") (by rfl) T.z_int (by decide +kernel) rfl) pa_nil))) (pe_one (pe_not (pe_callB (kx_isi (K := K)) (by rfl) T.z_isinstance (by decide +kernel) (pa_cons (pv 0) (pa_cons (pe_bltn (v := .ty "bool") (by rfl) T.z_bool (by decide +kernel) rfl) pa_nil)))))))), ?_⟩)
  all_goals (try simp only [nox_K, blk_K, cx_K])
  · rintro ds d ⟨i, rfl, _⟩; rfl
  · rintro ds d ⟨i, rfl, rfl⟩
    refine wp_ret (by walk_at "ev") ?_
    rfl
def Euc (k x y : Nat) : Prop := if k = 0 then x < 2 ^ 1900 ∧ y < 2 ^ 1900 else (y = 0 ∨ y < x) ∧ x * y * 2 ^ (k - 1) ≤ 2 ^ 1900 * 2 ^ 1900
theorem Euc.next {k x y : Nat} (h : Euc k x y) (hy : y ≠ 0) : Euc (k + 1) y (x % y) := by
  have hr : x % y < y := Nat.mod_lt _ (Nat.pos_of_ne_zero hy)
  unfold Euc at *
  rw [if_neg (by omega)]
  refine ⟨.inr hr, ?_⟩
  rw [Nat.add_sub_cancel]
  by_cases hk : k = 0
  · subst hk
    rw [if_pos rfl] at h
    rw [Nat.pow_zero, Nat.mul_one]
    exact Nat.mul_le_mul (Nat.le_of_lt h.2) (Nat.le_trans (Nat.le_of_lt hr) (Nat.le_of_lt h.2))
  · rw [if_neg hk] at h
    obtain ⟨h1, h2⟩ := h
    have hyx : y < x := h1.resolve_left hy
    have e := Nat.mod_add_div x y
    have hq : 1 ≤ x / y := Nat.div_pos (Nat.le_of_lt hyx) (Nat.pos_of_ne_zero hy)
    have hy2 : y ≤ y * (x / y) := Nat.le_mul_of_pos_right _ hq
    have h3 : 2 * (x % y) ≤ x := by omega
    refine Nat.le_trans ?_ h2
    have ek : (2 : Nat) ^ k = 2 * 2 ^ (k - 1) := by
      cases k with
      | zero => exact absurd rfl hk
      | succ m => rw [Nat.add_sub_cancel, Nat.pow_succ']
    rw [ek, ← Nat.mul_assoc]
    refine Nat.mul_le_mul_right _ ?_
    rw [Nat.mul_assoc, Nat.mul_comm (x % y) 2, Nat.mul_comm x y]
    exact Nat.mul_le_mul_left _ h3
theorem Euc.last {x y : Nat} (h : Euc 4000 x y) : y = 0 := by
  unfold Euc at h
  rw [if_neg (by decide)] at h
  obtain ⟨h1, h2⟩ := h
  by_cases hy : y = 0
  · exact hy
  · have hx := h1.resolve_left hy
    have h3 : 1 ≤ x * y := Nat.mul_pos (by omega) (Nat.pos_of_ne_zero hy)
    rw [← Nat.pow_add] at h2
    have h4 : 1 * 2 ^ (4000 - 1) ≤ x * y * 2 ^ (4000 - 1) := Nat.mul_le_mul_right _ h3
    rw [Nat.one_mul] at h4
    have h5 : (2 : Nat) ^ (1900 + 1900) < 2 ^ (4000 - 1) := Nat.pow_lt_pow_right (by decide) (by decide)
    omega
def R_div (ds : List D) (d : D) : Prop := ∃ a b : Int, ds = [.int a, .int b] ∧ Lt 1900 a ∧ Lt 1900 b ∧ d = .int (Nat.gcd a.natAbs b.natAbs : Nat)
theorem ok_u_law_divisor (T : Txt K mg) : FnOk P w K mg base CX0 1 T.f_u_law_divisor T.fd_u_law_divisor ["a", "b"] (spD K R_div) := by
  refine ok_wp T.F_u_law_divisor sc_u_law_divisor ?_ (fun cdv A outer s H E hr => ⟨_, (pss_cons (ps_set (i := 0) sc_u_law_divisor.nd rfl (by first | exact Or.inl rfl | exact Or.inr rfl) (pe_callB cr_absQ (by rfl) T.z_abs (by decide +kernel) (pa_cons (pv 0) pa_nil)))
      (pss_cons (ps_set (i := 1) sc_u_law_divisor.nd rfl (by first | exact Or.inl rfl | exact Or.inr rfl) (pe_callB cr_absQ (by rfl) T.z_abs (by decide +kernel) (pa_cons (pv 1) pa_nil)))
      (pss_cons (ps_for PassesOwn.never rfl (pi_range1 (by rfl) T.z_range (pa_cons pe_int pa_nil)) (pg_name (i := 2) sc_u_law_divisor.nd rfl (by first | exact Or.inl rfl | exact Or.inr rfl))
      (pss_cons (ps_if (pt_cmpR (kx_eq (K := K) hr.units) (pv 1) pe_int (nomark _)) (pss_one (ps_ret (pv 0))) pss_nil)
      (pss_one (ps_par (i := 0) (j := 1) (by rfl) sc_u_law_divisor.nd rfl rfl (by decide) rfl rfl (pa_cons (pv 1) (pa_cons (pe_op op_mod (pe_callTy cr_intQ (by rfl) T.z_int (by decide +kernel) (pa_cons (pv 0) pa_nil)) (pv 1)) pa_nil)) (by rfl)))))
      (pss_one (ps_ret (pv 0)))))), ?_⟩)
  all_goals (try simp only [nox_K, blk_K, cx_K])
  · rintro ds d ⟨a, b, rfl, _⟩; rfl
  · rintro ds d ⟨a, b, rfl, ha, hb, rfl⟩
    refine wp_seq (wp_asg (by walk_at "ev") ?_)
    refine wp_seq (wp_asg (by walk_at "ev") ?_)
    refine wp_seq (wp_forG (xs := List.range 4000) (g := fun k => PyData.int (k : Nat))
      (fun k δ => ∃ (x y : Nat) (z : SV), δ = [.val (.int x), .val (.int y), z] ∧ Euc k x y ∧ Nat.gcd x y = Nat.gcd a.natAbs b.natAbs)
      (by repeat' first | walk_at "ev2" | (show (_ : Nat) ≤ _; decide) | fail) ⟨_, _, _, rfl, ?_, rfl⟩ ?_ ?_)
    · unfold Euc
      rw [if_pos rfl]
      exact ⟨ha, hb⟩
    · rintro k v δ ex ⟨x, y, z, rfl, eu, eg⟩
      refine wp_seq (wp_if (by walk_at "ev") (fun h => ?_) (fun h => ?_))
      · have h : (y : Int) = 0 := by
          have h : ((y : Int) == 0) = true := h
          exact eq_of_beq h
        have hy : y = 0 := by omega
        subst hy
        refine wp_ret (by walk_at "ev") ?_
        show PyData.int _ = .int _
        rw [← eg, Nat.gcd_zero_right]
      · have h : ((y : Int) == 0) = false := h
        have hy : y ≠ 0 := fun z => by
          subst z
          cases h
        refine wp_next (wp_par (by walk_at "ev" <;> (show (0 : Int) < _; omega)) ?_)
        refine ⟨y, x % y, _, rfl, eu.next hy, ?_⟩
        rw [← eg, Nat.gcd_comm x y, Nat.gcd_rec y x, Nat.gcd_comm]
    · rintro δ ⟨x, y, z, rfl, eu, eg⟩
      rw [List.length_range] at eu
      have hy := eu.last
      subst hy
      refine wp_ret (by walk_at "ev") ?_
      show PyData.int _ = .int _
      rw [← eg, Nat.gcd_zero_right]
def R_lnumber (ds : List D) (d : D) : Prop := ∃ n m : Int, ds = [.int n, .int m] ∧ m ≠ 0 ∧ Lt 1900 n ∧ Lt 1900 m ∧ d = numV (nrm n m)
theorem ok_u_law_number (T : Txt K mg) : FnOk P w K mg base CX0 2 T.f_u_law_number T.fd_u_law_number ["n", "d"] (spD K R_lnumber) := by
  refine ok_wp T.F_u_law_number sc_u_law_number ?_ (fun cdv A outer s H E hr => ⟨_, (pss_cons (ps_set (i := 2) sc_u_law_number.nd rfl (by first | exact Or.inl rfl | exact Or.inr rfl) (pe_call (ok_u_law_divisor T) (hr.mono (by decide)) (by rfl) T.g_u_law_divisor T.F_u_law_divisor.kp T.b_u_law_divisor .nil pass0 (pa_cons (pv 0) (pa_cons (pv 1) pa_nil))))
      (pss_cons (ps_if (pt_cmpR op_lt (pv 1) pe_int (nomark _)) (pss_one (ps_set (i := 2) sc_u_law_number.nd rfl (by first | exact Or.inl rfl | exact Or.inr rfl) (pe_un un_neg (pv 2)))) pss_nil)
      (pss_one (ps_ret (pe_tup (pa_cons (pe_op op_fdivX (pv 0) (pv 2)) (pa_cons (pe_op op_fdivX (pv 1) (pv 2)) pa_nil))))))), ?_⟩)
  all_goals (try simp only [nox_K, blk_K, cx_K])
  · rintro ds d ⟨n, m, rfl, _⟩; rfl
  · rintro ds d ⟨n, m, rfl, hm, hn, hl, rfl⟩
    have c1 : ∀ i, CDivX i (dvs n m) := fun i => divX (dvs_ne hm) (k := 1900) (by
      unfold Lt
      rw [dvs_abs]
      exact Nat.lt_of_le_of_lt (gcd_le hm) hl)
    refine wp_seq (wp_asg (by repeat' first | walk_at "ev2" | exact ⟨_, _, rfl, hn, hl, rfl⟩ | fail) ?_)
    refine wp_seq (wp_cut (fun δ => δ = [.val (.int n), .val (.int m), .val (.int (dvs n m))]) (wp_if (by walk_at "ev") (fun h => ?_) (fun h => ?_)) ?_)
    · have h : m < 0 := of_decide_eq_true h
      refine wp_asg (by walk_at "ev") ?_
      show _ = _
      unfold dvs
      rw [if_pos h]
      rfl
    · have h : ¬ m < 0 := of_decide_eq_false h
      refine wp_next ?_
      show _ = _
      unfold dvs
      rw [if_neg h]
      rfl
    · rintro δ rfl
      refine wp_ret (by repeat' first | walk_at "ev2" | exact c1 _ | fail) ?_
      rfl
def R_lplus (ds : List D) (d : D) : Prop := ∃ a b : Int × Int, ds = [numV a, numV b] ∧ Sm 900 a ∧ Sm 900 b ∧ d = numV (nrm (a.1 * b.2 + b.1 * a.2) (a.2 * b.2))
theorem ok_u_law_plus (T : Txt K mg) : FnOk P w K mg base CX0 3 T.f_u_law_plus T.fd_u_law_plus ["a", "b"] (spD K R_lplus) := by
  refine ok_wp T.F_u_law_plus sc_u_law_plus ?_ (fun cdv A outer s H E hr => ⟨_, (pss_one (ps_ret (pe_call (ok_u_law_number T) (hr.mono (by decide)) (by rfl) T.g_u_law_number T.F_u_law_number.kp T.b_u_law_number .nil pass0 (pa_cons (pe_op op_add (pe_op op_mulX (pe_ix (kx_ix (K := K)) (pv 0) pe_int (fun _ _ => rfl)) (pe_ix (kx_ix (K := K)) (pv 1) pe_int (fun _ _ => rfl))) (pe_op op_mulX (pe_ix (kx_ix (K := K)) (pv 1) pe_int (fun _ _ => rfl)) (pe_ix (kx_ix (K := K)) (pv 0) pe_int (fun _ _ => rfl)))) (pa_cons (pe_op op_mulX (pe_ix (kx_ix (K := K)) (pv 0) pe_int (fun _ _ => rfl)) (pe_ix (kx_ix (K := K)) (pv 1) pe_int (fun _ _ => rfl))) pa_nil))))), ?_⟩)
  all_goals (try simp only [nox_K, blk_K, cx_K])
  · rintro ds d ⟨a, b, rfl, _⟩; rfl
  · rintro ds d ⟨a, b, rfl, ⟨a1, a2, a0⟩, ⟨b1, b2, b0⟩, rfl⟩
    have h0 : a.2 * b.2 ≠ 0 := Int.mul_ne_zero a0 b0
    have hn : Lt 1900 (a.1 * b.2 + b.1 * a.2) := ((a1.mul b2).add (b1.mul a2)).mono
    have hl : Lt 1900 (a.2 * b.2) := (a2.mul b2).mono
    refine wp_ret (by repeat' first | walk_at "ev2" | exact mulX a1 b2 | exact mulX b1 a2 | exact mulX a2 b2 | exact ⟨_, _, rfl, h0, hn, hl, rfl⟩ | fail) ?_
    rfl
def R_ltimes (ds : List D) (d : D) : Prop := ∃ a b : Int × Int, ds = [numV a, numV b] ∧ Sm 900 a ∧ Sm 900 b ∧ d = numV (nrm (a.1 * b.1) (a.2 * b.2))
theorem ok_u_law_times (T : Txt K mg) : FnOk P w K mg base CX0 3 T.f_u_law_times T.fd_u_law_times ["a", "b"] (spD K R_ltimes) := by
  refine ok_wp T.F_u_law_times sc_u_law_times ?_ (fun cdv A outer s H E hr => ⟨_, (pss_one (ps_ret (pe_call (ok_u_law_number T) (hr.mono (by decide)) (by rfl) T.g_u_law_number T.F_u_law_number.kp T.b_u_law_number .nil pass0 (pa_cons (pe_op op_mulX (pe_ix (kx_ix (K := K)) (pv 0) pe_int (fun _ _ => rfl)) (pe_ix (kx_ix (K := K)) (pv 1) pe_int (fun _ _ => rfl))) (pa_cons (pe_op op_mulX (pe_ix (kx_ix (K := K)) (pv 0) pe_int (fun _ _ => rfl)) (pe_ix (kx_ix (K := K)) (pv 1) pe_int (fun _ _ => rfl))) pa_nil))))), ?_⟩)
  all_goals (try simp only [nox_K, blk_K, cx_K])
  · rintro ds d ⟨a, b, rfl, _⟩; rfl
  · rintro ds d ⟨a, b, rfl, ⟨a1, a2, a0⟩, ⟨b1, b2, b0⟩, rfl⟩
    have h0 : a.2 * b.2 ≠ 0 := Int.mul_ne_zero a0 b0
    have hn : Lt 1900 (a.1 * b.1) := (a1.mul b1).mono
    have hl : Lt 1900 (a.2 * b.2) := (a2.mul b2).mono
    refine wp_ret (by repeat' first | walk_at "ev2" | exact mulX a1 b1 | exact mulX a2 b2 | exact ⟨_, _, rfl, h0, hn, hl, rfl⟩ | fail) ?_
    rfl
def R_lless (ds : List D) (d : D) : Prop := ∃ a b : Int × Int, ds = [numV a, numV b] ∧ Sm 3900 a ∧ Sm 3900 b ∧ d = .bool (decide (a.1 * b.2 < b.1 * a.2))
theorem ok_u_law_less (T : Txt K mg) : FnOk P w K mg base CX0 1 T.f_u_law_less T.fd_u_law_less ["a", "b"] (spD K R_lless) := by
  refine ok_wp T.F_u_law_less sc_u_law_less ?_ (fun cdv A outer s H E hr => ⟨_, (pss_one (ps_ret (pe_cmpR op_lt (pe_op op_mulX (pe_ix (kx_ix (K := K)) (pv 0) pe_int (fun _ _ => rfl)) (pe_ix (kx_ix (K := K)) (pv 1) pe_int (fun _ _ => rfl))) (pe_op op_mulX (pe_ix (kx_ix (K := K)) (pv 1) pe_int (fun _ _ => rfl)) (pe_ix (kx_ix (K := K)) (pv 0) pe_int (fun _ _ => rfl))) (nomark _)))), ?_⟩)
  all_goals (try simp only [nox_K, blk_K, cx_K])
  · rintro ds d ⟨a, b, rfl, _⟩; rfl
  · rintro ds d ⟨a, b, rfl, ⟨a1, a2, a0⟩, ⟨b1, b2, b0⟩, rfl⟩
    refine wp_ret (by repeat' first | walk_at "ev2" | exact mulX a1 b2 | exact mulX b1 a2 | fail) ?_
    rfl

/-! ### lists of integers in lowest terms -/
def gcdL (ns : List Int) : Nat := ns.foldl (fun g n => Nat.gcd g n.natAbs) 0
theorem gcdL_one : ∀ ns : List Int, ns.foldl (fun g n => Nat.gcd g n.natAbs) 1 = 1
  | [] => rfl
  | n :: ns => by
    rw [List.foldl_cons, Nat.gcd_one_left]
    exact gcdL_one ns
theorem gcdL_take {ns : List Int} {k : Nat} {x : Int} (h : ns[k]? = some x) : gcdL (ns.take (k + 1)) = Nat.gcd (gcdL (ns.take k)) x.natAbs := by
  unfold gcdL
  rw [List.take_add_one, h, List.foldl_append]
  rfl
theorem gcdL_pre {ns : List Int} {k : Nat} (h : gcdL (ns.take k) = 1) : gcdL ns = 1 := by
  have e : ns = ns.take k ++ ns.drop k := (List.take_append_drop k ns).symm
  rw [e]
  unfold gcdL at *
  rw [List.foldl_append, h]
  exact gcdL_one _
theorem foldl_gcd_le : ∀ (ns : List Int) (g : Nat) (B : Nat), g ≤ B → (∀ n ∈ ns, n.natAbs ≤ B) → ns.foldl (fun g n => Nat.gcd g n.natAbs) g ≤ B
  | [], g, B, h, _ => h
  | n :: ns, g, B, h, hn => by
    rw [List.foldl_cons]
    refine foldl_gcd_le ns _ B ?_ fun m hm => hn m (List.mem_cons_of_mem _ hm)
    by_cases hg : g = 0
    · subst hg
      rw [Nat.gcd_zero_left]
      exact hn n (List.mem_cons_self ..)
    · exact Nat.le_trans (Nat.gcd_le_left _ (Nat.pos_of_ne_zero hg)) h
theorem gcdL_lt {ns : List Int} {k : Nat} (h : ∀ n ∈ ns, Lt k n) : gcdL ns < 2 ^ k := by
  have : gcdL ns ≤ 2 ^ k - 1 := foldl_gcd_le ns 0 _ (Nat.zero_le _) fun n hn => by
    have := h n hn
    unfold Lt at this
    omega
  have := Nat.pow_pos (n := k) (show 0 < 2 by decide)
  omega
def lowM (ns : List Int) : List Int := if gcdL ns = 0 then ns else ns.map fun n => n.fdiv (gcdL ns : Nat)
def R_lowest (ds : List D) (d : D) : Prop := ∃ ns : List Int, ds = [.list (ns.map PyData.int)] ∧ (∀ n ∈ ns, Lt 8000 n) ∧ ns.length ≤ 100000 ∧ d = .list ((lowM ns).map PyData.int)
theorem ok_lowest (T : Txt K mg) : FnOk P w K mg base CX0 1 T.f_lowest T.fd_lowest ["integers"] (spD K R_lowest) := by
  refine ok_wp T.F_lowest sc_lowest ?_ (fun cdv A outer s H E hr => ⟨_, (pss_cons (ps_set (i := 1) sc_lowest.nd rfl (by first | exact Or.inl rfl | exact Or.inr rfl) pe_int)
      (pss_cons (ps_for PassesOwn.never rfl (kpi_list (K := K) (pv 0)) (pg_name (i := 2) sc_lowest.nd rfl (by first | exact Or.inl rfl | exact Or.inr rfl))
      (pss_cons (ps_set (i := 1) sc_lowest.nd rfl (by first | exact Or.inl rfl | exact Or.inr rfl) (pe_callBfun cr_gcd (by rfl) T.i_gcd (pa_cons (pv 1) (pa_cons (pv 2) pa_nil))))
      (pss_one (ps_if (pt_cmpR (kx_eq (K := K) hr.units) (pv 1) pe_int (nomark _)) (pss_one ps_break) pss_nil))))
      (pss_cons (ps_if (pt_cmpR (kx_eq (K := K) hr.units) (pv 1) pe_int (nomark _)) (pss_one (ps_ret (pe_callTy (kx_list (K := K)) (by rfl) T.z_list (by decide +kernel) (pa_cons (pv 0) pa_nil)))) pss_nil)
      (pss_one (ps_ret (pe_lc (own := [("n", 2)]) (by rfl) sc_lowest.nd (kpi_list (K := K) (pv 0)) (by refine blkOk_by ?_; rfl) (fun _ _ _ _ _ => pg_name (i := 2) sc_lowest.nd rfl (by first | exact Or.inl rfl | exact Or.inr rfl)) (fun _ _ _ _ _ => pts_nil) (fun _ _ _ _ _ => (pe_op op_fdivX (pv 2) (pv 1))))))))), ?_⟩)
  all_goals (try simp only [nox_K, blk_K, cx_K])
  · rintro ds d ⟨ns, rfl, _⟩; rfl
  · rintro ds d ⟨ns, rfl, hn, hl, rfl⟩
    refine wp_seq (wp_asg (by walk_at "ev") ?_)
    refine wp_seq (wp_cut (fun δ => ∃ x, δ = [.val (.list (ns.map PyData.int)), .val (.int (gcdL ns : Nat)), x])
      (wp_forG (xs := ns) (g := PyData.int) (fun k δ => ∃ x, δ = [.val (.list (ns.map PyData.int)), .val (.int (gcdL (ns.take k) : Nat)), x]) (by walk_at "ev") ⟨_, rfl⟩ ?_ ?_) ?_)
    · rintro k x δ ex ⟨y, rfl⟩
      refine wp_seq (wp_asg (by walk_at "ev") ?_)
      refine wp_if (by walk_at "ev") (fun h => ?_) (fun h => ?_)
      · have h : ((Nat.gcd (gcdL (ns.take k)) x.natAbs : Nat) : Int) = 1 := eq_of_beq (a := ((Nat.gcd (gcdL (ns.take k)) x.natAbs : Nat) : Int)) h
        refine wp_break ⟨.val (.int x), ?_⟩
        have h1 : gcdL (ns.take (k + 1)) = 1 := by
          rw [gcdL_take ex]
          omega
        rw [gcdL_pre h1]
        show [_, SV.val (PyData.int ((Nat.gcd (gcdL (ns.take k)) x.natAbs : Nat) : Int)), _] = _
        rw [h]
        rfl
      · refine wp_next ⟨.val (.int x), ?_⟩
        rw [gcdL_take ex]
        rfl
    · rintro δ ⟨x, rfl⟩
      refine ⟨x, ?_⟩
      rw [List.take_length]
    · rintro δ ⟨x, rfl⟩
      refine wp_seq (wp_if (by walk_at "ev") (fun h => ?_) (fun h => ?_))
      · have h : ((gcdL ns : Nat) : Int) = 0 := eq_of_beq (a := ((gcdL ns : Nat) : Int)) h
        have h0 : gcdL ns = 0 := by omega
        refine wp_ret (by walk_at "ev") ?_
        show _ = _
        rw [lowM, if_pos h0]
      · have h : (((gcdL ns : Nat) : Int) == 0) = false := h
        have h0 : gcdL ns ≠ 0 := fun z => by
          rw [z] at h
          cases h
        refine wp_next (wp_ret (EN.ed (en_lc1 (xs := ns) (g := PyData.int) (f := fun n => PyData.int (n.fdiv (gcdL ns : Nat))) (by walk_at "ev") (sz_small hl) fun n hm => ?_)) ?_)
        · repeat' first | walk_at "ev2" | exact divX (k := 8000) (by omega) (gcdL_lt hn) | fail
        · show _ = _
          rw [lowM, if_neg h0, List.map_map]
          rfl
/-- lists of numbers over one denominator -/
def lcmL (as : List (Int × Int)) : Nat := as.foldl (fun s a => Nat.lcm s a.2.natAbs) 1
def prodL (as : List (Int × Int)) : Nat := as.foldl (fun s a => s * a.2.natAbs) 1
theorem lcmL_take {as : List (Int × Int)} {k : Nat} {x : Int × Int} (h : as[k]? = some x) : lcmL (as.take (k + 1)) = Nat.lcm (lcmL (as.take k)) x.2.natAbs := by
  unfold lcmL
  rw [List.take_add_one, h, List.foldl_append]
  rfl
theorem foldl_lcm_le : ∀ (as : List (Int × Int)) (s t : Nat), s ≤ t → as.foldl (fun s a => Nat.lcm s a.2.natAbs) s ≤ as.foldl (fun s a => s * a.2.natAbs) t
  | [], s, t, h => h
  | a :: as, s, t, h => by
    rw [List.foldl_cons, List.foldl_cons]
    exact foldl_lcm_le as _ _ (Nat.le_trans (lcm_le _ _) (Nat.mul_le_mul_right _ h))
theorem foldl_prod_mono : ∀ (as : List (Int × Int)) (s : Nat), (∀ a ∈ as, a.2 ≠ 0) → s ≤ as.foldl (fun s a => s * a.2.natAbs) s
  | [], s, _ => Nat.le_refl _
  | a :: as, s, h => by
    rw [List.foldl_cons]
    have h0 : 0 < a.2.natAbs := Int.natAbs_pos.mpr (h a (List.mem_cons_self ..))
    exact Nat.le_trans (Nat.le_mul_of_pos_right _ h0) (foldl_prod_mono as _ fun b hb => h b (List.mem_cons_of_mem _ hb))
theorem lcmL_lt {as : List (Int × Int)} {k n : Nat} (h0 : ∀ a ∈ as, a.2 ≠ 0) (h : prodL as < 2 ^ k) : lcmL (as.take n) < 2 ^ k := by
  refine Nat.lt_of_le_of_lt (foldl_lcm_le _ 1 1 (Nat.le_refl _)) (Nat.lt_of_le_of_lt ?_ h)
  have e : prodL as = (as.drop n).foldl (fun s a => s * a.2.natAbs) (prodL (as.take n)) := by
    unfold prodL
    rw [← List.foldl_append, List.take_append_drop]
  rw [e]
  exact foldl_prod_mono _ _ fun a ha => h0 a (List.mem_of_mem_drop ha)
theorem foldl_lcm_pos : ∀ (as : List (Int × Int)) (s : Nat), 0 < s → (∀ a ∈ as, a.2 ≠ 0) → 0 < as.foldl (fun s a => Nat.lcm s a.2.natAbs) s
  | [], s, h, _ => h
  | a :: as, s, h, h0 => by
    rw [List.foldl_cons]
    exact foldl_lcm_pos as _ (Nat.lcm_pos h (Int.natAbs_pos.mpr (h0 a (List.mem_cons_self ..)))) fun b hb => h0 b (List.mem_cons_of_mem _ hb)
def togM (as : List (Int × Int)) : List Int := as.map fun a => a.1 * (Int.fdiv (lcmL as : Nat) a.2)
def R_together (ds : List D) (d : D) : Prop := ∃ as : List (Int × Int), ds = [.list (as.map numV)] ∧ (∀ a ∈ as, a.2 ≠ 0 ∧ Lt 8000 a.1 ∧ Lt 8000 a.2) ∧ prodL as < 2 ^ 8000 ∧ as.length ≤ 100000 ∧ d = .tuple [.list ((togM as).map PyData.int), .int (lcmL as : Nat)]
theorem tog_lt {k : Nat} {as : List (Int × Int)} (h : ∀ a ∈ as, a.2 ≠ 0) (hp : prodL as < 2 ^ k) {a : Int × Int} (ha : a ∈ as) : Lt k (Int.fdiv (lcmL as : Nat) a.2) := by
  have e : lcmL as < 2 ^ k := by
    have := lcmL_lt (n := as.length) h hp
    rwa [List.take_length] at this
  have h2 : (a.2.natAbs : Nat) ∣ lcmL as := by
    unfold lcmL
    have go : ∀ (l : List (Int × Int)) (s : Nat), (a.2.natAbs ∣ s ∨ a ∈ l) → a.2.natAbs ∣ l.foldl (fun s a => Nat.lcm s a.2.natAbs) s := by
      intro l
      induction l with
      | nil => intro s hs; exact hs.elim id fun z => by cases z
      | cons b l ih =>
        intro s hs
        rw [List.foldl_cons]
        refine ih _ ?_
        rcases hs with hs | hs
        · exact .inl (Nat.dvd_trans hs (Nat.dvd_lcm_left _ _))
        · rcases List.mem_cons.mp hs with rfl | hs
          · exact .inl (Nat.dvd_lcm_right _ _)
          · exact .inr hs
    exact go as 1 (.inr ha)
  have h3 : a.2 ∣ ((lcmL as : Nat) : Int) := by
    rw [← Int.natAbs_dvd_natAbs]
    exact h2
  have e2 := fdiv_of_dvd h3
  have e3 : (Int.fdiv (lcmL as : Nat) a.2).natAbs * a.2.natAbs = lcmL as := by
    rw [← Int.natAbs_mul, e2]
    rfl
  unfold Lt
  refine Nat.lt_of_le_of_lt ?_ e
  have e4 := Nat.le_mul_of_pos_right (Int.fdiv (lcmL as : Nat) a.2).natAbs (Int.natAbs_pos.mpr (h a ha))
  rwa [e3] at e4
theorem ok_together (T : Txt K mg) : FnOk P w K mg base CX0 1 T.f_together T.fd_together ["numbers"] (spD K R_together) := by
  refine ok_wp T.F_together sc_together ?_ (fun cdv A outer s H E hr => ⟨_, (pss_cons (ps_set (i := 1) sc_together.nd rfl (by first | exact Or.inl rfl | exact Or.inr rfl) pe_int)
      (pss_cons (ps_for PassesOwn.never rfl (kpi_list (K := K) (pv 0)) (pg_name (i := 2) sc_together.nd rfl (by first | exact Or.inl rfl | exact Or.inr rfl))
      (pss_one (ps_set (i := 1) sc_together.nd rfl (by first | exact Or.inl rfl | exact Or.inr rfl) (pe_callBfun cr_lcm (by rfl) T.i_lcm (pa_cons (pv 1) (pa_cons (pe_ix (kx_ix (K := K)) (pv 2) pe_int (fun _ _ => rfl)) pa_nil))))))
      (pss_one (ps_ret (pe_tup (pa_cons (pe_lc (own := [("a", 2)]) (by rfl) sc_together.nd (kpi_list (K := K) (pv 0)) (by refine blkOk_by ?_; rfl) (fun _ _ _ _ _ => pg_name (i := 2) sc_together.nd rfl (by first | exact Or.inl rfl | exact Or.inr rfl)) (fun _ _ _ _ _ => pts_nil) (fun _ _ _ _ _ => (pe_op op_mulX (pe_ix (kx_ix (K := K)) (pv 2) pe_int (fun _ _ => rfl)) (pe_op op_fdivX (pv 1) (pe_ix (kx_ix (K := K)) (pv 2) pe_int (fun _ _ => rfl)))))) (pa_cons (pv 1) pa_nil))))))), ?_⟩)
  all_goals (try simp only [nox_K, blk_K, cx_K])
  · rintro ds d ⟨as, rfl, _⟩; rfl
  · rintro ds d ⟨as, rfl, ha, hp, hl, rfl⟩
    have h0 : ∀ a ∈ as, a.2 ≠ 0 := fun a hm => (ha a hm).1
    refine wp_seq (wp_asg (by walk_at "ev") ?_)
    refine wp_seq (wp_forG (xs := as) (g := numV) (fun k δ => ∃ x, δ = [.val (.list (as.map numV)), .val (.int (lcmL (as.take k) : Nat)), x]) (by walk_at "ev") ⟨_, rfl⟩ ?_ ?_)
    · rintro k x δ ex ⟨y, rfl⟩
      have hm := List.mem_of_getElem? ex
      have hL : Lt 13000 ((lcmL (as.take k) : Nat) : Int) := Lt.mono (a := 8000) (show Lt 8000 _ from lcmL_lt h0 hp)
      refine wp_asg (by repeat' first | walk_at "ev2" | exact hL | exact (ha x hm).2.2.mono | fail) ⟨.val (numV x), ?_⟩
      rw [lcmL_take ex]
      rfl
    · rintro δ ⟨x, rfl⟩
      rw [List.take_length]
      refine wp_ret (ed_tup (ea_cons (EN.ed (en_lc1 (xs := as) (g := numV) (f := fun a => PyData.int (a.1 * (Int.fdiv (lcmL as : Nat) a.2))) (by walk_at "ev") (sz_small hl) fun a hm => ?_)) (ea_cons (by walk_at "ev") ea_nil)) (sz_small (by simp))) ?_
      · repeat' first | walk_at "ev2" | exact divX (ha a hm).1 (ha a hm).2.2 | exact mulX (ha a hm).2.1 (tog_lt h0 hp hm) | fail
      · show _ = _
        rw [togM, List.map_map]
        rfl
def R_brought (ds : List D) (d : D) : Prop := ∃ as : List (Int × Int), ds = [.list (as.map numV)] ∧ (∀ a ∈ as, a.2 ≠ 0 ∧ Lt 3900 a.1 ∧ Lt 3900 a.2) ∧ prodL as < 2 ^ 3900 ∧ as.length ≤ 100000 ∧ d = .list ((lowM (togM as)).map PyData.int)
theorem ok_brought (T : Txt K mg) : FnOk P w K mg base CX0 2 T.f_brought T.fd_brought ["numbers"] (spD K R_brought) := by
  refine ok_wp T.F_brought sc_brought ?_ (fun cdv A outer s H E hr => ⟨_, (pss_cons (ps_asg (pe_call (ok_together T) (hr.mono (by decide)) (by rfl) T.g_together T.F_together.kp T.b_together .nil pass0 (pa_cons (pv 0) pa_nil)) (kpg_tup (K := K) rfl (pgs_cons (pg_name (i := 1) sc_brought.nd rfl (by first | exact Or.inl rfl | exact Or.inr rfl)) (pgs_cons (pg_name (i := 2) sc_brought.nd rfl (by first | exact Or.inl rfl | exact Or.inr rfl)) pgs_nil))))
      (pss_one (ps_ret (pe_call (ok_lowest T) (hr.mono (by decide)) (by rfl) T.g_lowest T.F_lowest.kp T.b_lowest .nil pass0 (pa_cons (pv 1) pa_nil))))), ?_⟩)
  all_goals (try simp only [nox_K, blk_K, cx_K])
  · rintro ds d ⟨as, rfl, _⟩; rfl
  · rintro ds d ⟨as, rfl, ha, hp, hl, rfl⟩
    have h0 : ∀ a ∈ as, a.2 ≠ 0 := fun a hm => (ha a hm).1
    have hp2 : prodL as < 2 ^ 8000 := Nat.lt_of_lt_of_le hp (Nat.pow_le_pow_right (by decide) (by decide))
    have hT : ∀ n ∈ togM as, Lt 8000 n := fun n hn => by
      obtain ⟨a, hm, rfl⟩ := List.mem_map.mp hn
      exact ((ha a hm).2.1.mul (tog_lt h0 hp hm)).mono
    refine wp_seq (wp_asgG (d := .tuple [.list ((togM as).map PyData.int), .int (lcmL as : Nat)]) (by repeat' first | walk_at "ev2" | exact ⟨as, rfl, fun a hm => ⟨h0 a hm, (ha a hm).2.1.mono, (ha a hm).2.2.mono⟩, hp2, hl, rfl⟩ | fail) (gd_tup (gds_cons gd_name (gds_cons gd_name gds_nil)) rfl) ?_)
    refine wp_ret (by repeat' first | walk_at "ev2" | exact ⟨togM as, rfl, hT, by rw [togM, List.length_map]; exact hl, rfl⟩ | fail) ?_
    rfl

/-! ### mathematics of numbers -/
theorem fdiv_exact {q c : Int} (h : c ≠ 0) : (q * c).fdiv c = q := Int.mul_fdiv_cancel q h
theorem dvs_scale {x y g : Int} (hy : y ≠ 0) (hg : g ≠ 0) : dvs (x * g) (y * g) = dvs x y * g := by
  have e : Nat.gcd (x * g).natAbs (y * g).natAbs = Nat.gcd x.natAbs y.natAbs * g.natAbs := by
    rw [Int.natAbs_mul, Int.natAbs_mul, Nat.gcd_mul_right]
  have ec : ((Nat.gcd x.natAbs y.natAbs * g.natAbs : Nat) : Int) = (Nat.gcd x.natAbs y.natAbs : Nat) * (g.natAbs : Int) := Int.natCast_mul _ _
  unfold dvs
  rw [e, ec]
  by_cases hg2 : g < 0
  · have eg : (g.natAbs : Int) = -g := by omega
    rw [eg]
    by_cases hy2 : y < 0
    · have h3 : ¬ y * g < 0 := by
        have := Int.mul_nonneg_of_nonpos_of_nonpos (a := y) (b := g) (by omega) (by omega)
        omega
      rw [if_neg h3, if_pos hy2, Int.neg_mul, Int.mul_neg]
    · have h3 : y * g < 0 := by
        have := Int.mul_neg_of_pos_of_neg (a := y) (b := g) (by omega) hg2
        omega
      rw [if_pos h3, if_neg hy2, Int.mul_neg, Int.neg_neg]
  · have eg : (g.natAbs : Int) = g := by omega
    rw [eg]
    by_cases hy2 : y < 0
    · have h3 : y * g < 0 := Int.mul_neg_of_neg_of_pos hy2 (by omega)
      rw [if_pos h3, if_pos hy2, Int.neg_mul]
    · have h3 : ¬ y * g < 0 := by
        have := Int.mul_nonneg (a := y) (b := g) (by omega) (by omega)
        omega
      rw [if_neg h3, if_neg hy2]
theorem nrm_scale {x y g : Int} (hy : y ≠ 0) (hg : g ≠ 0) : nrm (x * g) (y * g) = nrm x y := by
  have hd := dvs_ne (n := x) hy
  have hdg : dvs x y * g ≠ 0 := Int.mul_ne_zero hd hg
  have e1 : x * g = (nrm x y).1 * (dvs x y * g) := by rw [← Int.mul_assoc, nrm_mul1]
  have e2 : y * g = (nrm x y).2 * (dvs x y * g) := by rw [← Int.mul_assoc, nrm_mul2]
  have h1 : (x * g).fdiv (dvs x y * g) = (nrm x y).1 := by rw [e1, fdiv_exact hdg]
  have h2 : (y * g).fdiv (dvs x y * g) = (nrm x y).2 := by rw [e2, fdiv_exact hdg]
  show ((x * g).fdiv (dvs (x * g) (y * g)), (y * g).fdiv (dvs (x * g) (y * g))) = _
  rw [dvs_scale hy hg, h1, h2]
theorem nrm_le1 (n m : Int) (h : m ≠ 0) : (nrm n m).1.natAbs ≤ n.natAbs := by
  have e := congrArg Int.natAbs (nrm_mul1 n m)
  rw [Int.natAbs_mul] at e
  have h2 := Nat.le_mul_of_pos_right (nrm n m).1.natAbs (Int.natAbs_pos.mpr (dvs_ne (n := n) h))
  omega
theorem nrm_le2 (n m : Int) (h : m ≠ 0) : (nrm n m).2.natAbs ≤ m.natAbs := by
  have e := congrArg Int.natAbs (nrm_mul2 n m)
  rw [Int.natAbs_mul] at e
  have h2 := Nat.le_mul_of_pos_right (nrm n m).2.natAbs (Int.natAbs_pos.mpr (dvs_ne (n := n) h))
  omega
theorem nrm_sm {k : Nat} {n m : Int} (h : m ≠ 0) (hn : Lt k n) (hm : Lt k m) : Sm k (nrm n m) :=
  ⟨hn.le (nrm_le1 n m h), hm.le (nrm_le2 n m h), by have := nrm_pos (n := n) h; omega⟩
theorem lowM_eq (ns : List Int) : ns.map (fun n => n.fdiv (max 1 (gcdL ns : Nat))) = lowM ns := by
  unfold lowM
  by_cases h : gcdL ns = 0
  · rw [if_pos h, h]
    have e : (fun n : Int => n.fdiv (max 1 ((0 : Nat) : Int))) = id := by
      funext n
      exact Int.fdiv_one n
    rw [e, List.map_id]
  · rw [if_neg h]
    have e : (max 1 ((gcdL ns : Nat) : Int)) = (gcdL ns : Nat) := by omega
    rw [e]
theorem lcm_step {m n : Nat} (hm : 0 < m) : (Int.fdiv (m : Nat) (Nat.gcd m n : Nat)) * (n : Int) = ((Nat.lcm m n : Nat) : Int) := by
  rw [Int.fdiv_eq_ediv_of_nonneg _ (Int.natCast_nonneg _), ← Int.natCast_ediv, ← Int.natCast_mul]
  congr 1
  unfold Nat.lcm
  rw [Nat.div_mul_right_comm (Nat.gcd_dvd_left m n)]
theorem prodL_le : ∀ (as : List (Int × Int)) (s B : Nat), (∀ a ∈ as, a.2.natAbs ≤ B) → as.foldl (fun s a => s * a.2.natAbs) s ≤ s * B ^ as.length
  | [], s, B, _ => by
    rw [List.length_nil, Nat.pow_zero, Nat.mul_one]
    exact Nat.le_refl _
  | a :: as, s, B, h => by
    rw [List.foldl_cons, List.length_cons, Nat.pow_succ']
    refine Nat.le_trans (prodL_le as _ B fun b hb => h b (List.mem_cons_of_mem _ hb)) ?_
    rw [← Nat.mul_assoc]
    exact Nat.mul_le_mul_right _ (Nat.mul_le_mul_left _ (h a (List.mem_cons_self ..)))
/-! ### parts -/
theorem partsM_len (cell : Int) : ∀ (ss : List Int) (k : Nat) (l : Int), (partsM cell ss k l).length = ss.length
  | [], _, _ => rfl
  | s :: ss, k, l => by
    rw [partsM, List.length_cons, List.length_cons, partsM_len cell ss]
theorem partsM_get (cell : Int) : ∀ (ss : List Int) (k : Nat) (l : Int) (i : Nat) (s : Int), ss[i]? = some s → 0 < s → 0 ≤ (partsM cell ss k l).getD i 0 ∧ (partsM cell ss k l).getD i 0 < s
  | [], _, _, _, _, h, _ => by simp at h
  | t :: ss, k, l, 0, s, h, hs => by
    have e : t = s := by simpa using h
    subst e
    rw [partsM, List.getD_cons_zero]
    split
    · exact ⟨Int.emod_nonneg _ (by omega), Int.emod_lt_of_pos _ hs⟩
    · exact ⟨Int.emod_nonneg _ (by omega), Int.emod_lt_of_pos _ hs⟩
  | t :: ss, k, l, i + 1, s, h, hs => by
    rw [partsM, List.getD_cons_succ]
    exact partsM_get cell ss _ _ i s (by simpa using h) hs
theorem parts_len (cell : Int) (ss : List Int) : (partsOf cell ss).length = ss.length := partsM_len _ _ _ _
theorem parts_get {cell : Int} {ss : List Int} (i : Nat) {s : Int} (h : ss[i]? = some s) (hs : 0 < s) : 0 ≤ (partsOf cell ss).getD i 0 ∧ (partsOf cell ss).getD i 0 < s := partsM_get _ _ _ _ i s h hs
theorem atI_getD {P : List Int} {k : Nat} (h : k < P.length) : atI (P.map PyData.int) (k : Int) = some (.int (P.getD k 0)) := by
  rw [List.getD_eq_getElem?_getD, List.getElem?_eq_getElem h]
  exact atI_map (List.getElem?_eq_getElem h)
/-! ### the law -/
def R_same (ds : List D) (d : D) : Prop := ∃ a : Int × Int, ds = [numV a, numV a] ∧ d = .bool true
theorem ok_u_law_is_same (T : Txt K mg) : FnOk P w K mg base CX0 2 T.f_u_law_is_same T.fd_u_law_is_same ["actual", "due"] (spD K R_same) := by
  refine ok_wp T.F_u_law_is_same sc_u_law_is_same ?_ (fun cdv A outer s H E hr => ⟨_, (pss_cons (ps_if (PW.pt (pw_or (pt_not (pt_val (pe_callB (kx_isi (K := K)) (by rfl) T.z_isinstance (by decide +kernel) (pa_cons (pv 0) (pa_cons (pe_bltn (v := .ty "tuple") (by rfl) T.z_tuple (by decide +kernel) rfl) pa_nil))))) (pw_or1 (pt_cmpR (kx_ne (K := K) hr.units) (pe_callB (kx_len (K := K)) (by rfl) T.z_len (by decide +kernel) (pa_cons (pv 0) pa_nil)) pe_int (nomark _))))) (pss_one (ps_ret pe_bl)) pss_nil)
      (pss_one (ps_ret (pe_and (pe_call (ok_u_law_is_integer T) (hr.mono (by decide)) (by rfl) T.g_u_law_is_integer T.F_u_law_is_integer.kp T.b_u_law_is_integer .nil pass0 (pa_cons (pe_ix (kx_ix (K := K)) (pv 0) pe_int (fun _ _ => rfl)) pa_nil)) (pe_and (pe_call (ok_u_law_is_integer T) (hr.mono (by decide)) (by rfl) T.g_u_law_is_integer T.F_u_law_is_integer.kp T.b_u_law_is_integer .nil pass0 (pa_cons (pe_ix (kx_ix (K := K)) (pv 0) pe_int (fun _ _ => rfl)) pa_nil)) (pe_one (pe_cmpR (kx_eq (K := K) hr.units) (pv 0) (pv 1) (nomark _)))))))), ?_⟩)
  all_goals (try simp only [nox_K, blk_K, cx_K])
  · rintro ds d ⟨a, rfl, _⟩; rfl
  · rintro ds d ⟨a, rfl, rfl⟩
    have e := eqv_self (shp_num (n := 0) (p := a))
    refine wp_seq (wp_if (b := false) (ET.of (by walk_at "ev") (by rfl)) (fun h => nomatch h) (fun _ => wp_next ?_))
    refine wp_ret (by repeat' first | walk_at "ev2" | exact ⟨_, rfl, rfl⟩ | fail) ?_
    show PyData.bool (true && (true && PyData.eqv (numV a) (numV a))) = _
    rw [e]
    rfl
def szM (p : Int) : Int := if p = 0 then 7 else if p = 1 then 40 else 10 ^ 30
def pairM (p0 p1 p2 p3 p4 : Int) : Int × Int := ((p1 % szM p0 - (szM p0).fdiv 2) * (1 + p3), (1 + p2 % szM p0) * (1 + p3) * (if p4 = 0 then 1 else -1))
theorem item3 {x y z : D} {p : Int} (h0 : 0 ≤ p) (h : p < 3) : itemD (.list [x, y, z]) p = some (if p = 0 then x else if p = 1 then y else z) := by
  rcases (show p = 0 ∨ p = 1 ∨ p = 2 by omega) with rfl | rfl | rfl <;> rfl
theorem item2 {x y : D} {p : Int} (h0 : 0 ≤ p) (h : p < 2) : itemD (.list [x, y]) p = some (if p = 0 then x else y) := by
  rcases (show p = 0 ∨ p = 1 by omega) with rfl | rfl <;> rfl
theorem szM_b (p : Int) : 7 ≤ szM p ∧ szM p ≤ 10 ^ 30 := by
  unfold szM
  split
  · decide
  · split <;> decide
def R_pair (ds : List D) (d : D) : Prop := ∃ (P : List Int) (a : Nat), ds = [.list (P.map PyData.int), .int a] ∧ a + 4 < P.length ∧ (0 ≤ P.getD a 0 ∧ P.getD a 0 < 3) ∧ (0 ≤ P.getD (a + 3) 0 ∧ P.getD (a + 3) 0 < 12) ∧ (0 ≤ P.getD (a + 4) 0 ∧ P.getD (a + 4) 0 < 2) ∧
  d = numV (pairM (P.getD a 0) (P.getD (a + 1) 0) (P.getD (a + 2) 0) (P.getD (a + 3) 0) (P.getD (a + 4) 0))
theorem int_pow30 : (10 : Int) ^ (Int.toNat 30) = 10 ^ 30 := rfl
theorem ok_u_law_pair (T : Txt K mg) : FnOk P w K mg base CX0 1 T.f_u_law_pair T.fd_u_law_pair ["parts", "at"] (spD K R_pair) := by
  refine ok_wp T.F_u_law_pair sc_u_law_pair ?_ (fun cdv A outer s H E hr => ⟨_, (pss_cons (ps_set (i := 2) sc_u_law_pair.nd rfl (by first | exact Or.inl rfl | exact Or.inr rfl) (pe_ix (kx_ix (K := K)) (pe_lst (pa_cons pe_int (pa_cons pe_int (pa_cons (pe_op op_pow pe_int pe_int) pa_nil)))) (pe_ix (kx_ix (K := K)) (pv 0) (pv 1) (fun _ _ => rfl)) (fun _ _ => rfl)))
      (pss_cons (ps_set (i := 3) sc_u_law_pair.nd rfl (by first | exact Or.inl rfl | exact Or.inr rfl) (pe_op op_sub (pe_op op_mod (pe_ix (kx_ix (K := K)) (pv 0) (pe_op op_add (pv 1) pe_int) (fun _ _ => rfl)) (pv 2)) (pe_op op_fdivX (pv 2) pe_int)))
      (pss_cons (ps_set (i := 4) sc_u_law_pair.nd rfl (by first | exact Or.inl rfl | exact Or.inr rfl) (pe_op op_add pe_int (pe_op op_mod (pe_ix (kx_ix (K := K)) (pv 0) (pe_op op_add (pv 1) pe_int) (fun _ _ => rfl)) (pv 2))))
      (pss_one (ps_ret (pe_tup (pa_cons (pe_op op_mulX (pv 3) (pe_op op_add pe_int (pe_ix (kx_ix (K := K)) (pv 0) (pe_op op_add (pv 1) pe_int) (fun _ _ => rfl)))) (pa_cons (pe_op op_mulX (pe_op op_mulX (pv 4) (pe_op op_add pe_int (pe_ix (kx_ix (K := K)) (pv 0) (pe_op op_add (pv 1) pe_int) (fun _ _ => rfl)))) (pe_ix (kx_ix (K := K)) (pe_lst (pa_cons pe_int (pa_cons (pe_un un_neg pe_int) pa_nil))) (pe_ix (kx_ix (K := K)) (pv 0) (pe_op op_add (pv 1) pe_int) (fun _ _ => rfl)) (fun _ _ => rfl))) pa_nil)))))))), ?_⟩)
  all_goals (try simp only [nox_K, blk_K, cx_K])
  · rintro ds d ⟨P, a, rfl, _⟩; rfl
  · rintro ds d ⟨P, a, rfl, ha, ⟨p0, p0'⟩, ⟨p3, p3'⟩, ⟨p4, p4'⟩, rfl⟩
    have i0 : atI (P.map PyData.int) (a : Int) = some (.int (P.getD a 0)) := atI_getD (by omega)
    have i1 : atI (P.map PyData.int) ((a : Int) + 1) = some (.int (P.getD (a + 1) 0)) := atI_getD (k := a + 1) (by omega)
    have i2 : atI (P.map PyData.int) ((a : Int) + 2) = some (.int (P.getD (a + 2) 0)) := atI_getD (k := a + 2) (by omega)
    have i3 : atI (P.map PyData.int) ((a : Int) + 3) = some (.int (P.getD (a + 3) 0)) := atI_getD (k := a + 3) (by omega)
    have i4 : atI (P.map PyData.int) ((a : Int) + 4) = some (.int (P.getD (a + 4) 0)) := atI_getD (k := a + 4) (by omega)
    generalize P.getD a 0 = q0 at *
    generalize P.getD (a + 1) 0 = q1 at *
    generalize P.getD (a + 2) 0 = q2 at *
    generalize P.getD (a + 3) 0 = q3 at *
    generalize P.getD (a + 4) 0 = q4 at *
    obtain ⟨s1, s2⟩ := szM_b q0
    have hs : itemD (.list [.int 7, .int 40, .int (10 ^ (Int.toNat 30))]) q0 = some (.int (szM q0)) := by
      rw [item3 p0 p0', int_pow30, szM]
      split
      · rfl
      · split <;> rfl
    have h1 : itemD (.list [.int 1, .int (-1)]) q4 = some (.int (if q4 = 0 then 1 else -1)) := by
      rw [item2 p4 p4']
      split <;> rfl
    refine wp_seq (wp_asg (d := .int (szM q0)) (ed_ix (i := q0) (by walk_at "ev") (by repeat' first | walk_at "ev2" | exact i0 | fail) hs) ?_)
    refine wp_seq (wp_asg (d := .int (q1 % szM q0 - (szM q0).fdiv 2)) (by repeat' first | walk_at "ev2" | exact i1 | (show 0 < szM q0; omega) | exact divX (k := 2) (by decide) (by unfold Lt; decide) | fail) ?_)
    refine wp_seq (wp_asg (d := .int (1 + q2 % szM q0)) (by repeat' first | walk_at "ev2" | exact i2 | (show 0 < szM q0; omega) | fail) ?_)
    refine wp_ret (d := numV (pairM q0 q1 q2 q3 q4)) ?_ ?_
    · show ED _ _ _ (.tuple [.int ((q1 % szM q0 - (szM q0).fdiv 2) * (1 + q3)), .int ((1 + q2 % szM q0) * (1 + q3) * (if q4 = 0 then 1 else -1))])
      have hm : CMulX ((1 + q2 % szM q0) * (1 + q3)) (if q4 = 0 then 1 else -1) := mulR (by split <;> decide)
      have hm2 : ∀ i, CMulX i (1 + q3) := fun i => mulR (by omega)
      repeat' first | walk_at "ev2" | exact i3 | exact i4 | exact hm | exact hm2 _ | exact h1 | fail
    · rfl
theorem pair_b {p0 p1 p2 p3 p4 : Int} (h3 : 0 ≤ p3 ∧ p3 < 12) : Sm 105 (pairM p0 p1 p2 p3 p4) := by
  obtain ⟨s1, s2⟩ := szM_b p0
  have a1 := Int.emod_nonneg p1 (show szM p0 ≠ 0 by omega)
  have a2 := Int.emod_lt_of_pos p1 (show 0 < szM p0 by omega)
  have b1 := Int.emod_nonneg p2 (show szM p0 ≠ 0 by omega)
  have b2 := Int.emod_lt_of_pos p2 (show 0 < szM p0 by omega)
  have c : (szM p0).fdiv 2 = szM p0 / 2 := Int.fdiv_eq_ediv_of_nonneg _ (by decide)
  have l1 : Lt 100 (p1 % szM p0 - (szM p0).fdiv 2) := by
    unfold Lt
    rw [c]
    have : (2 : Nat) ^ 100 = 1267650600228229401496703205376 := by decide
    have : (10 : Int) ^ 30 = 1000000000000000000000000000000 := by decide
    omega
  have l2 : Lt 100 (1 + p2 % szM p0) := by
    unfold Lt
    have : (2 : Nat) ^ 100 = 1267650600228229401496703205376 := by decide
    have : (10 : Int) ^ 30 = 1000000000000000000000000000000 := by decide
    omega
  have l3 : Lt 4 (1 + p3) := by
    unfold Lt
    omega
  have l4 : Lt 1 (if p4 = 0 then 1 else -1) := by
    unfold Lt
    split <;> decide
  refine ⟨(l1.mul l3).mono, ((l2.mul l3).mul l4).mono, ?_⟩
  refine Int.mul_ne_zero (Int.mul_ne_zero (by omega) (by omega)) ?_
  split <;> decide

def R_rl (ds : List D) (d : D) : Prop := ∃ P : List Int, ds = [.list (P.map PyData.int)] ∧ P.length = 11 ∧ (∀ i, i < 8 → 0 ≤ P.getD i 0 ∧ P.getD i 0 < 61) ∧ (0 ≤ P.getD 8 0 ∧ P.getD 8 0 < 9) ∧ (0 ≤ P.getD 9 0 ∧ P.getD 9 0 < 12) ∧ d = .bool true
theorem range_map_len (n : Nat) {α : Type} (f : Nat → α) : ((List.range n).map f).length = n := by rw [List.length_map, List.length_range]
theorem gcdL_ltc {ns : List Int} {k n : Nat} (h : ∀ n ∈ ns, Lt k n) : gcdL (ns.take n) < 2 ^ k := gcdL_lt fun m hm => h m (List.mem_of_mem_take hm)
theorem lcmL_pos {as : List (Int × Int)} (h0 : ∀ a ∈ as, a.2 ≠ 0) : 0 < lcmL as := foldl_lcm_pos as 1 (by decide) h0
theorem ok_u_law_right_lists (T : Txt K mg) : FnOk P w K mg base CX0 3 T.f_u_law_right_lists T.fd_u_law_right_lists ["parts"] (spD K R_rl) := by
  refine ok_wp T.F_u_law_right_lists sc_u_law_right_lists ?_ (fun cdv A outer s H E hr => ⟨_, (pss_cons (ps_setLc (i := 1) (own := [("k", 9)]) (by rfl) sc_u_law_right_lists.nd rfl rfl (sw_true rfl rfl rfl rfl) (pi_range1 (by rfl) T.z_range (pa_cons (pe_ix (kx_ix (K := K)) (pv 0) pe_int (fun _ _ => rfl)) pa_nil)) (by refine blkOk_by ?_; rfl) (fun _ _ _ _ _ => pg_name (i := 9) sc_u_law_right_lists.nd rfl (by first | exact Or.inl rfl | exact Or.inr rfl)) (fun _ _ _ _ _ => pts_nil) (fun _ _ _ _ _ => (pe_op op_sub (pe_ix (kx_ix (K := K)) (pv 0) (pv 9) (fun _ _ => rfl)) pe_int)))
      (pss_cons (ps_setLc (i := 1) (own := [("part", 3)]) (by rfl) sc_u_law_right_lists.nd rfl rfl (sw_true rfl rfl rfl rfl) (kpi_list (K := K) (pv 1)) (by refine blkOk_by ?_; rfl) (fun _ _ _ _ _ => pg_name (i := 3) sc_u_law_right_lists.nd rfl (by first | exact Or.inl rfl | exact Or.inr rfl)) (fun _ _ _ _ _ => pts_nil) (fun _ _ _ _ _ => (pe_op op_mulX (pe_op op_mulX (pv 3) (pe_op op_add pe_int (pe_ix (kx_ix (K := K)) (pv 0) pe_int (fun _ _ => rfl)))) (pe_ix (kx_ix (K := K)) (pe_lst (pa_cons pe_int (pa_cons pe_int pa_nil))) (pe_callTy cr_intQ (by rfl) T.z_int (by decide +kernel) (pa_cons (pe_cmpR (kx_eq (K := K) hr.units) (pe_ix (kx_ix (K := K)) (pv 0) pe_int (fun _ _ => rfl)) pe_int (nomark _)) pa_nil)) (fun _ _ => rfl)))))
      (pss_cons (ps_set (i := 2) sc_u_law_right_lists.nd rfl (by first | exact Or.inl rfl | exact Or.inr rfl) pe_int)
      (pss_cons (ps_for PassesOwn.never rfl (kpi_list (K := K) (pv 1)) (pg_name (i := 3) sc_u_law_right_lists.nd rfl (by first | exact Or.inl rfl | exact Or.inr rfl))
      (pss_one (ps_set (i := 2) sc_u_law_right_lists.nd rfl (by first | exact Or.inl rfl | exact Or.inr rfl) (pe_call (ok_u_law_divisor T) (hr.mono (by decide)) (by rfl) T.g_u_law_divisor T.F_u_law_divisor.kp T.b_u_law_divisor .nil pass0 (pa_cons (pv 2) (pa_cons (pv 3) pa_nil))))))
      (pss_cons (ps_setLc (i := 4) (own := [("part", 3)]) (by rfl) sc_u_law_right_lists.nd rfl rfl (sw_true rfl rfl rfl rfl) (kpi_list (K := K) (pv 1)) (by refine blkOk_by ?_; rfl) (fun _ _ _ _ _ => pg_name (i := 3) sc_u_law_right_lists.nd rfl (by first | exact Or.inl rfl | exact Or.inr rfl)) (fun _ _ _ _ _ => pts_nil) (fun _ _ _ _ _ => (pe_op op_fdivX (pv 3) (pe_callB (cr_max2 rfl) (by rfl) T.z_max (by decide +kernel) (pa_cons pe_int (pa_cons (pv 2) pa_nil))))))
      (pss_cons (ps_set (i := 5) sc_u_law_right_lists.nd rfl (by first | exact Or.inl rfl | exact Or.inr rfl) (pe_callTy (kx_list (K := K)) (by rfl) T.z_list (by decide +kernel) (pa_cons (pv 1) pa_nil)))
      (pss_cons (ps_if (PW.pt (pw_or (pt_cmpR (kx_ne (K := K) hr.units) (pe_call (ok_lowest T) (hr.mono (by decide)) (by rfl) T.g_lowest T.F_lowest.kp T.b_lowest .nil pass0 (pa_cons (pv 1) pa_nil)) (pv 4) (nomark _)) (pw_or (pt_cmpR (kx_ne (K := K) hr.units) (pv 1) (pv 5) (nomark _)) (pw_or1 (pt_not (pt_val (pe_callB (kx_isi (K := K)) (by rfl) T.z_isinstance (by decide +kernel) (pa_cons (pe_call (ok_lowest T) (hr.mono (by decide)) (by rfl) T.g_lowest T.F_lowest.kp T.b_lowest .nil pass0 (pa_cons (pv 1) pa_nil)) (pa_cons (pe_bltn (v := .ty "list") (by rfl) T.z_list (by decide +kernel) rfl) pa_nil))))))))) (pss_one (ps_ret pe_bl)) pss_nil)
      (pss_cons (ps_setLc (i := 6) (own := [("k", 9)]) (by rfl) sc_u_law_right_lists.nd rfl rfl (sw_true rfl rfl rfl rfl) (pi_range1 (by rfl) T.z_range (pa_cons (pe_op op_mod (pe_callTy cr_intQ (by rfl) T.z_int (by decide +kernel) (pa_cons (pe_ix (kx_ix (K := K)) (pv 0) pe_int (fun _ _ => rfl)) pa_nil)) pe_int) pa_nil)) (by refine blkOk_by ?_; rfl) (fun _ _ _ _ _ => pg_name (i := 9) sc_u_law_right_lists.nd rfl (by first | exact Or.inl rfl | exact Or.inr rfl)) (fun _ _ _ _ _ => pts_nil) (fun _ _ _ _ _ => (pe_call (ok_u_law_number T) (hr.mono (by decide)) (by rfl) T.g_u_law_number T.F_u_law_number.kp T.b_u_law_number .nil pass0 (pa_cons (pe_op op_sub (pe_ix (kx_ix (K := K)) (pv 0) (pv 9) (fun _ _ => rfl)) pe_int) (pa_cons (pe_op op_add pe_int (pe_op op_mod (pe_callTy cr_intQ (by rfl) T.z_int (by decide +kernel) (pa_cons (pe_ix (kx_ix (K := K)) (pv 0) (pe_op op_add (pv 9) pe_int) (fun _ _ => rfl)) pa_nil)) pe_int)) pa_nil)))))
      (pss_cons (ps_set (i := 7) sc_u_law_right_lists.nd rfl (by first | exact Or.inl rfl | exact Or.inr rfl) pe_int)
      (pss_cons (ps_for PassesOwn.never rfl (kpi_list (K := K) (pv 6)) (pg_name (i := 3) sc_u_law_right_lists.nd rfl (by first | exact Or.inl rfl | exact Or.inr rfl))
      (pss_one (ps_set (i := 7) sc_u_law_right_lists.nd rfl (by first | exact Or.inl rfl | exact Or.inr rfl) (pe_op op_mulX (pe_op op_fdivX (pv 7) (pe_call (ok_u_law_divisor T) (hr.mono (by decide)) (by rfl) T.g_u_law_divisor T.F_u_law_divisor.kp T.b_u_law_divisor .nil pass0 (pa_cons (pv 7) (pa_cons (pe_ix (kx_ix (K := K)) (pv 3) pe_int (fun _ _ => rfl)) pa_nil)))) (pe_ix (kx_ix (K := K)) (pv 3) pe_int (fun _ _ => rfl))))))
      (pss_cons (ps_setLc (i := 8) (own := [("part", 3)]) (by rfl) sc_u_law_right_lists.nd rfl rfl (sw_true rfl rfl rfl rfl) (kpi_list (K := K) (pv 6)) (by refine blkOk_by ?_; rfl) (fun _ _ _ _ _ => pg_name (i := 3) sc_u_law_right_lists.nd rfl (by first | exact Or.inl rfl | exact Or.inr rfl)) (fun _ _ _ _ _ => pts_nil) (fun _ _ _ _ _ => (pe_op op_mulX (pe_ix (kx_ix (K := K)) (pv 3) pe_int (fun _ _ => rfl)) (pe_op op_fdivX (pv 7) (pe_ix (kx_ix (K := K)) (pv 3) pe_int (fun _ _ => rfl))))))
      (pss_cons (ps_set (i := 2) sc_u_law_right_lists.nd rfl (by first | exact Or.inl rfl | exact Or.inr rfl) pe_int)
      (pss_cons (ps_for PassesOwn.never rfl (kpi_list (K := K) (pv 8)) (pg_name (i := 3) sc_u_law_right_lists.nd rfl (by first | exact Or.inl rfl | exact Or.inr rfl))
      (pss_one (ps_set (i := 2) sc_u_law_right_lists.nd rfl (by first | exact Or.inl rfl | exact Or.inr rfl) (pe_call (ok_u_law_divisor T) (hr.mono (by decide)) (by rfl) T.g_u_law_divisor T.F_u_law_divisor.kp T.b_u_law_divisor .nil pass0 (pa_cons (pv 2) (pa_cons (pv 3) pa_nil))))))
      (pss_one (ps_ret (pe_cmpR (kx_eq (K := K) hr.units) (pe_call (ok_brought T) (hr.mono (by decide)) (by rfl) T.g_brought T.F_brought.kp T.b_brought .nil pass0 (pa_cons (pv 6) pa_nil)) (pe_lc (own := [("part", 3)]) (by rfl) sc_u_law_right_lists.nd (kpi_list (K := K) (pv 8)) (by refine blkOk_by ?_; rfl) (fun _ _ _ _ _ => pg_name (i := 3) sc_u_law_right_lists.nd rfl (by first | exact Or.inl rfl | exact Or.inr rfl)) (fun _ _ _ _ _ => pts_nil) (fun _ _ _ _ _ => (pe_op op_fdivX (pv 3) (pe_callB (cr_max2 rfl) (by rfl) T.z_max (by decide +kernel) (pa_cons pe_int (pa_cons (pv 2) pa_nil)))))) (nomark _))))))))))))))))), ?_⟩)
  all_goals (try simp only [nox_K, blk_K, cx_K])
  · rintro ds d ⟨P, rfl, _⟩; rfl
  · rintro ds d ⟨P, rfl, hP, h8, ⟨c0, c1⟩, ⟨e0, e1⟩, rfl⟩
    have iK : ∀ k : Nat, k < 11 → atI (P.map PyData.int) (k : Int) = some (.int (P.getD k 0)) := fun k hk => atI_getD (by omega)
    have i8 : atI (P.map PyData.int) 8 = some (.int (P.getD 8 0)) := iK 8 (by omega)
    have i9 : atI (P.map PyData.int) 9 = some (.int (P.getD 9 0)) := iK 9 (by omega)
    have i10 : atI (P.map PyData.int) 10 = some (.int (P.getD 10 0)) := iK 10 (by omega)
    obtain ⟨m, hm⟩ : ∃ m : Nat, P.getD 8 0 = m := ⟨(P.getD 8 0).toNat, by omega⟩
    rw [hm] at i8 c1
    have hm9 : m < 9 := by omega
    -- the integers
    refine wp_seq (wp_asg (EN.ed (en_lc1 (xs := List.range m) (g := fun k => PyData.int (k : Nat)) (f := fun k => PyData.int (P.getD k 0 - 30)) (by repeat' first | walk_at "ev2" | walk_at "sh" | exact i8 | (show (_ : Nat) ≤ _; omega) | fail) (sz_small (by rw [List.length_range]; omega)) fun k hk => ?_)) ?_)
    · have hk := List.mem_range.mp hk
      have ik := iK k (by omega)
      repeat' first | walk_at "ev2" | walk_at "sh" | exact ik | fail
    obtain ⟨fl, hfl⟩ : ∃ fl : Int, fl = if P.getD 10 0 = 0 then 0 else 1 := ⟨_, rfl⟩
    have hit : itemD (.list [.int 1, .int 0]) (if (P.getD 10 0 == 0) = true then 1 else 0) = some (.int fl) := by
      rw [hfl]
      by_cases z : P.getD 10 0 = 0
      · rw [z]; rfl
      · rw [if_neg z, if_neg (by simpa using z)]; rfl
    have fb : fl = 0 ∨ fl = 1 := by
      rw [hfl]
      split <;> omega
    have h9 : ∀ i, CMulX i (1 + P.getD 9 0) := fun i => mulR (by omega)
    have h10 : ∀ i, CMulX i fl := fun i => mulR (by omega)
    have e1 : (List.range m).map (fun k => PyData.int (P.getD k 0 - 30)) = ((List.range m).map fun k => P.getD k 0 - 30).map PyData.int := by
      rw [List.map_map]; rfl
    rw [e1]
    generalize hA : (List.range m).map (fun k => P.getD k 0 - 30) = A
    have hAl : A.length = m := by rw [← hA, range_map_len]
    have hAb : ∀ n ∈ A, -30 ≤ n ∧ n < 31 := fun n hn => by
      rw [← hA] at hn
      obtain ⟨k, hk, rfl⟩ := List.mem_map.mp hn
      have := h8 k (by have := List.mem_range.mp hk; omega)
      omega
    refine wp_seq (wp_asg (EN.ed (en_lc1 (xs := A) (g := PyData.int) (f := fun n => PyData.int (n * (1 + P.getD 9 0) * fl)) (by walk_at "ev") (sz_small (by omega)) fun n hn => ?_)) ?_)
    · repeat' first | walk_at "ev2" | walk_at "sh" | exact i9 | exact i10 | exact h9 _ | exact h10 _ | exact hit | fail
    have e2 : A.map (fun n => PyData.int (n * (1 + P.getD 9 0) * fl)) = (A.map fun n => n * (1 + P.getD 9 0) * fl).map PyData.int := by
      rw [List.map_map]; rfl
    rw [e2]
    generalize hB : A.map (fun n => n * (1 + P.getD 9 0) * fl) = ns
    have hnl : ns.length = m := by rw [← hB, List.length_map, hAl]
    have hnb : ∀ n ∈ ns, Lt 20 n := fun n hn => by
      rw [← hB] at hn
      obtain ⟨a, ha, rfl⟩ := List.mem_map.mp hn
      have h1 := hAb a ha
      have l1 : Lt 6 a := by unfold Lt; omega
      have l2 : Lt 4 (1 + P.getD 9 0) := by unfold Lt; omega
      have l3 : Lt 1 fl := by unfold Lt; omega
      exact ((l1.mul l2).mul l3).mono
    have hn8 : ∀ n ∈ ns, Lt 8000 n := fun n hn => (hnb n hn).mono
    -- their divisor
    refine wp_seq (wp_asg (by walk_at "ev") ?_)
    refine wp_seq (wp_cut (fun δ => ∃ x y, δ = [.val (.list (P.map PyData.int)), .val (.list (ns.map PyData.int)), .val (.int (gcdL ns : Nat)), x, .no, .no, .no, .no, .no, y])
      (wp_forG (xs := ns) (g := PyData.int) (fun k δ => ∃ x y, δ = [.val (.list (P.map PyData.int)), .val (.list (ns.map PyData.int)), .val (.int (gcdL (ns.take k) : Nat)), x, .no, .no, .no, .no, .no, y]) (by walk_at "ev") ⟨_, _, rfl⟩ ?_ ?_) ?_)
    · rintro k x δ ex ⟨y, z, rfl⟩
      have hx := List.mem_of_getElem? ex
      have l1 : Lt 1900 ((gcdL (ns.take k) : Nat) : Int) := Lt.mono (a := 20) (show Lt 20 _ from gcdL_ltc hnb)
      refine wp_asg (by repeat' first | walk_at "ev2" | walk_at "sh" | exact ⟨_, _, rfl, l1, (hnb x hx).mono, rfl⟩ | fail) ⟨.val (.int x), z, ?_⟩
      rw [gcdL_take ex]
      rfl
    · rintro δ ⟨x, y, rfl⟩
      refine ⟨x, y, ?_⟩
      rw [List.take_length]
    rintro δ ⟨x, y, rfl⟩
    have hd1 : ∀ i, CDivX i (max 1 ((gcdL ns : Nat) : Int)) := fun i => divX (k := 8000) (by omega) (by
      have := gcdL_lt hn8
      have h2 : (2 : Nat) ^ 8000 > 1 := Nat.one_lt_two_pow (by decide)
      unfold Lt
      omega)
    have e3 : ns.map (fun n => PyData.int (n.fdiv (max 1 (gcdL ns : Nat)))) = (lowM ns).map PyData.int := by
      rw [← lowM_eq, List.map_map]; rfl
    refine wp_seq (wp_asg (ED.of (EN.ed (en_lc1 (xs := ns) (g := PyData.int) (f := fun n => PyData.int (n.fdiv (max 1 (gcdL ns : Nat)))) (by walk_at "ev") (sz_small (by omega)) fun n hn => ?_)) (congrArg PyData.list e3)) ?_)
    · repeat' first | walk_at "ev2" | walk_at "sh" | exact hd1 _ | fail
    refine wp_seq (wp_asg (by walk_at "ev") ?_)
    have cl : R_lowest [.list (ns.map PyData.int)] (.list ((lowM ns).map PyData.int)) := ⟨ns, rfl, hn8, by omega, rfl⟩
    have q1 := eqv_self (shp_ints (n := 0) (ns := lowM ns))
    have q2 := eqv_self (shp_ints (n := 0) (ns := ns))
    refine wp_seq (wp_if (b := false) (ET.of (by repeat' first | walk_at "ev2" | walk_at "sh" | exact cl | fail) (by rw [q1, q2]; rfl)) (fun h => nomatch h) (fun _ => wp_next ?_))
    -- the numbers
    generalize hr : m % 7 = r
    have hr7 : r < 7 := by omega
    have hri : (m : Int) % 7 = (r : Nat) := by omega
    refine wp_seq (wp_asg (EN.ed (en_lc1 (xs := List.range r) (g := fun k => PyData.int (k : Nat)) (f := fun k => numV (nrm (P.getD k 0 - 30) (1 + P.getD (k + 1) 0 % 9))) (by repeat' first | walk_at "ev2" | walk_at "sh" | exact i8 | exact hri | (show (0 : Int) < 7; decide) | (show (_ : Nat) ≤ _; omega) | fail) (sz_small (by rw [List.length_range]; omega)) fun k hk => ?_)) ?_)
    · have hk := List.mem_range.mp hk
      have ik := iK k (by omega)
      have ik1 : atI (P.map PyData.int) ((k : Int) + 1) = some (.int (P.getD (k + 1) 0)) := iK (k + 1) (by omega)
      have b1 := h8 k (by omega)
      have b2 := Int.emod_nonneg (P.getD (k + 1) 0) (show (9 : Int) ≠ 0 by decide)
      have b3 := Int.emod_lt_of_pos (P.getD (k + 1) 0) (show (0 : Int) < 9 by decide)
      have l1 : Lt 1900 (P.getD k 0 - 30) := Lt.mono (a := 6) (by unfold Lt; omega)
      have l2 : Lt 1900 (1 + P.getD (k + 1) 0 % 9) := Lt.mono (a := 6) (by unfold Lt; omega)
      repeat' first | walk_at "ev2" | walk_at "sh" | exact ik | exact ik1 | (show (0 : Int) < 9; decide) | exact ⟨_, _, rfl, by omega, l1, l2, rfl⟩ | fail
    have e4 : (List.range r).map (fun k => numV (nrm (P.getD k 0 - 30) (1 + P.getD (k + 1) 0 % 9))) = ((List.range r).map fun k => nrm (P.getD k 0 - 30) (1 + P.getD (k + 1) 0 % 9)).map numV := by
      rw [List.map_map]; rfl
    rw [e4]
    generalize hN : (List.range r).map (fun k => nrm (P.getD k 0 - 30) (1 + P.getD (k + 1) 0 % 9)) = as
    have hal : as.length = r := by rw [← hN, range_map_len]
    have hab : ∀ a ∈ as, a.1.natAbs ≤ 30 ∧ a.2.natAbs ≤ 9 ∧ 0 < a.2 := fun a ha => by
      rw [← hN] at ha
      obtain ⟨k, hk, rfl⟩ := List.mem_map.mp ha
      have hk := List.mem_range.mp hk
      have b1 := h8 k (by omega)
      have b2 := Int.emod_nonneg (P.getD (k + 1) 0) (show (9 : Int) ≠ 0 by decide)
      have b3 := Int.emod_lt_of_pos (P.getD (k + 1) 0) (show (0 : Int) < 9 by decide)
      have hne : (1 + P.getD (k + 1) 0 % 9) ≠ 0 := by omega
      have n1 := nrm_le1 (P.getD k 0 - 30) _ hne
      have n2 := nrm_le2 (P.getD k 0 - 30) _ hne
      exact ⟨by omega, by omega, nrm_pos hne⟩
    have ha0 : ∀ a ∈ as, a.2 ≠ 0 := fun a ha => by have := hab a ha; omega
    have hpr : prodL as < 2 ^ 40 := by
      refine Nat.lt_of_le_of_lt (prodL_le as 1 9 fun a ha => (hab a ha).2.1) ?_
      rw [Nat.one_mul, hal]
      exact Nat.lt_of_le_of_lt (Nat.pow_le_pow_right (by decide) (show r ≤ 7 by omega)) (by decide)
    refine wp_seq (wp_asg (by walk_at "ev") ?_)
    refine wp_seq (wp_cut (fun δ => ∃ x y z, δ = [.val (.list (P.map PyData.int)), .val (.list (ns.map PyData.int)), z, x, .val (.list ((lowM ns).map PyData.int)), .val (.list (ns.map PyData.int)), .val (.list (as.map numV)), .val (.int (lcmL as : Nat)), .no, y])
      (wp_forG (xs := as) (g := numV) (fun k δ => ∃ x y z, δ = [.val (.list (P.map PyData.int)), .val (.list (ns.map PyData.int)), z, x, .val (.list ((lowM ns).map PyData.int)), .val (.list (ns.map PyData.int)), .val (.list (as.map numV)), .val (.int (lcmL (as.take k) : Nat)), .no, y]) (by walk_at "ev") ⟨_, _, _, rfl⟩ ?_ ?_) ?_)
    · rintro k a δ ex ⟨y, z, z2, rfl⟩
      have ha := List.mem_of_getElem? ex
      have h2 := hab a ha
      have l1 : Lt 40 ((lcmL (as.take k) : Nat) : Int) := lcmL_lt ha0 hpr
      have l2 : Lt 4 a.2 := by unfold Lt; omega
      have hpos : 0 < lcmL (as.take k) := lcmL_pos fun b hb => ha0 b (List.mem_of_mem_take hb)
      have g1 : 0 < Nat.gcd (lcmL (as.take k)) a.2.natAbs := Nat.gcd_pos_of_pos_left _ hpos
      have g2 : Nat.gcd (lcmL (as.take k)) a.2.natAbs ≤ lcmL (as.take k) := Nat.gcd_le_left _ hpos
      have l3 : Lt 40 ((Nat.gcd (lcmL (as.take k)) a.2.natAbs : Nat) : Int) := Nat.lt_of_le_of_lt g2 l1
      have hcd : CDivX ((lcmL (as.take k) : Nat) : Int) ((Nat.gcd (lcmL (as.take k)) a.2.natAbs : Nat) : Int) := divX (k := 40) (by omega) l3
      have st := lcm_step (n := a.2.natAbs) hpos
      have ea : (a.2.natAbs : Int) = a.2 := by omega
      have cm : ∀ i, CMulX i a.2 := fun i => mulR (by omega)
      refine wp_asg (by repeat' first | walk_at "ev2" | walk_at "sh" | exact ⟨_, _, rfl, l1.mono, l2.mono, rfl⟩ | exact hcd | exact cm _ | fail) ⟨.val (numV a), z, z2, ?_⟩
      rw [lcmL_take ex, ← st, ea]
      rfl
    · rintro δ ⟨x, y, z, rfl⟩
      refine ⟨x, y, z, ?_⟩
      rw [List.take_length]
    rintro δ ⟨x, y, z, rfl⟩
    have lt1 : ∀ a ∈ as, Lt 40 (Int.fdiv (lcmL as : Nat) a.2) := fun a ha => tog_lt ha0 hpr ha
    refine wp_seq (wp_asg (EN.ed (en_lc1 (xs := as) (g := numV) (f := fun a => PyData.int (a.1 * (Int.fdiv (lcmL as : Nat) a.2))) (by walk_at "ev") (sz_small (by omega)) fun a ha => ?_)) ?_)
    · have h2 := hab a ha
      have l1 : Lt 10 a.1 := by unfold Lt; omega
      have l2 : Lt 10 a.2 := by unfold Lt; omega
      repeat' first | walk_at "ev2" | walk_at "sh" | exact divX (ha0 a ha) l2 | exact mulX l1 (lt1 a ha) | fail
    have e5 : as.map (fun a => PyData.int (a.1 * (Int.fdiv (lcmL as : Nat) a.2))) = (togM as).map PyData.int := by
      rw [togM, List.map_map]; rfl
    rw [e5]
    have tb : ∀ n ∈ togM as, Lt 50 n := fun n hn => by
      obtain ⟨a, ha, rfl⟩ := List.mem_map.mp hn
      have h2 := hab a ha
      have l1 : Lt 10 a.1 := by unfold Lt; omega
      exact (l1.mul (lt1 a ha)).mono
    have tb8 : ∀ n ∈ togM as, Lt 8000 n := fun n hn => (tb n hn).mono
    have tl : (togM as).length = r := by rw [togM, List.length_map, hal]
    refine wp_seq (wp_asg (by walk_at "ev") ?_)
    refine wp_seq (wp_cut (fun δ => ∃ x y z w u v, δ = [.val (.list (P.map PyData.int)), x, .val (.int (gcdL (togM as) : Nat)), y, u, v, .val (.list (as.map numV)), w, .val (.list ((togM as).map PyData.int)), z])
      (wp_forG (xs := togM as) (g := PyData.int) (fun k δ => ∃ x y z w u v, δ = [.val (.list (P.map PyData.int)), x, .val (.int (gcdL ((togM as).take k) : Nat)), y, u, v, .val (.list (as.map numV)), w, .val (.list ((togM as).map PyData.int)), z]) (by walk_at "ev") ⟨_, _, _, _, _, _, rfl⟩ ?_ ?_) ?_)
    · rintro k n δ ex ⟨y, z, z2, z3, z4, z5, rfl⟩
      have hx := List.mem_of_getElem? ex
      have l1 : Lt 1900 ((gcdL ((togM as).take k) : Nat) : Int) := Lt.mono (a := 50) (show Lt 50 _ from gcdL_ltc tb)
      refine wp_asg (by repeat' first | walk_at "ev2" | exact ⟨_, _, rfl, l1, (tb n hx).mono, rfl⟩ | fail) ⟨y, .val (.int n), z2, z3, z4, z5, ?_⟩
      rw [gcdL_take ex]
      rfl
    · rintro δ ⟨x, y, z, w, u, v, rfl⟩
      refine ⟨x, y, z, w, u, v, ?_⟩
      rw [List.take_length]
    rintro δ ⟨x, y, z, w, u, v, rfl⟩
    have hd1 : ∀ i, CDivX i (max 1 ((gcdL (togM as) : Nat) : Int)) := fun i => divX (k := 8000) (by omega) (by
      have := gcdL_lt tb8
      have h2 : (2 : Nat) ^ 8000 > 1 := Nat.one_lt_two_pow (by decide)
      unfold Lt
      omega)
    have e6 : (togM as).map (fun n => PyData.int (n.fdiv (max 1 (gcdL (togM as) : Nat)))) = (lowM (togM as)).map PyData.int := by
      rw [← lowM_eq, List.map_map]; rfl
    have q3 := eqv_self (shp_ints (n := 0) (ns := lowM (togM as)))
    have hpr2 : prodL as < 2 ^ 3900 := Nat.lt_of_lt_of_le hpr (Nat.pow_le_pow_right (by decide) (by decide))
    have cb : R_brought [.list (as.map numV)] (.list ((lowM (togM as)).map PyData.int)) := ⟨as, rfl, fun a ha => by
      have h2 := hab a ha
      have l1 : Lt 10 a.1 := by unfold Lt; omega
      have l2 : Lt 10 a.2 := by unfold Lt; omega
      exact ⟨ha0 a ha, l1.mono, l2.mono⟩, hpr2, by omega, rfl⟩
    refine wp_ret (ed_eqD (x := .list ((lowM (togM as)).map PyData.int)) (y := .list ((lowM (togM as)).map PyData.int)) (b := true) (by repeat' first | walk_at "ev2" | exact cb | fail)
      (ED.of (EN.ed (en_lc1 (xs := togM as) (g := PyData.int) (f := fun n => PyData.int (n.fdiv (max 1 (gcdL (togM as) : Nat)))) (by walk_at "ev") (sz_small (by omega)) fun n hn => ?_)) (congrArg PyData.list e6)) (Shp.shaped (n := 1) shp_ints) (Shp.shaped (n := 1) shp_ints) q3) rfl
    · repeat' first | walk_at "ev2" | exact hd1 _ | fail

def sizes1 : List Int := [3, 10 ^ 30, 10 ^ 30, 12, 2, 3, 10 ^ 30, 10 ^ 30, 12, 2]
def sizes2 : List Int := [61, 61, 61, 61, 61, 61, 61, 61, 9, 12, 4]
theorem sgn_eq (n : Int) : sgnI n = (if decide (0 < n) = true then 1 else 0) - (if decide (n < 0) = true then 1 else 0) := by
  unfold sgnI
  by_cases h1 : 0 < n <;> by_cases h2 : n < 0 <;> simp [h1, h2] <;> omega
def R_law (ds : List D) (d : D) : Prop := ∃ ns : List Int, ds = [.list (ns.map PyData.int)] ∧ ns.length ≤ 63 ∧ d = .bool true
theorem sizes_ok {ss : List Int} (h : ∀ s ∈ ss, 0 < s ∧ s < 2 ^ 200) : ∀ s ∈ ss, 0 < s ∧ Lt 8000 s := fun s hs => by
  obtain ⟨a, b⟩ := h s hs
  refine ⟨a, Lt.mono (a := 200) ?_⟩
  have : (2 : Int) ^ 200 = ((2 ^ 200 : Nat) : Int) := by decide
  unfold Lt
  omega
theorem ok_law (T : Txt K mg) : FnOk P w K mg base CX0 4 T.f_law T.fd_law ["script"] (spD K R_law) := by
  refine ok_wp T.F_law sc_law ?_ (fun cdv A outer s H E hr => ⟨_, (pss_cons (ps_set (i := 1) sc_law.nd rfl (by first | exact Or.inl rfl | exact Or.inr rfl) (pe_call (ok_u_law_parts T) (hr.mono (by decide)) (by rfl) T.g_u_law_parts T.F_u_law_parts.kp T.b_u_law_parts .nil pass0 (pa_cons (pe_call (ok_u_law_cell T) (hr.mono (by decide)) (by rfl) T.g_u_law_cell T.F_u_law_cell.kp T.b_u_law_cell .nil pass0 (pa_cons (pv 0) (pa_cons pe_int pa_nil))) (pa_cons (pe_op op_rep (pe_lst (pa_cons pe_int (pa_cons (pe_op op_pow pe_int pe_int) (pa_cons (pe_op op_pow pe_int pe_int) (pa_cons pe_int (pa_cons pe_int pa_nil)))))) pe_int) pa_nil))))
      (pss_cons (ps_set (i := 2) sc_law.nd rfl (by first | exact Or.inl rfl | exact Or.inr rfl) (pe_call (ok_u_law_pair T) (hr.mono (by decide)) (by rfl) T.g_u_law_pair T.F_u_law_pair.kp T.b_u_law_pair .nil pass0 (pa_cons (pv 1) (pa_cons pe_int pa_nil))))
      (pss_cons (ps_set (i := 3) sc_law.nd rfl (by first | exact Or.inl rfl | exact Or.inr rfl) (pe_call (ok_u_law_pair T) (hr.mono (by decide)) (by rfl) T.g_u_law_pair T.F_u_law_pair.kp T.b_u_law_pair .nil pass0 (pa_cons (pv 1) (pa_cons pe_int pa_nil))))
      (pss_cons (ps_set (i := 4) sc_law.nd rfl (by first | exact Or.inl rfl | exact Or.inr rfl) (pe_call (ok_u_law_number T) (hr.mono (by decide)) (by rfl) T.g_u_law_number T.F_u_law_number.kp T.b_u_law_number .nil pass0 (pa_cons (pe_ix (kx_ix (K := K)) (pv 2) pe_int (fun _ _ => rfl)) (pa_cons (pe_ix (kx_ix (K := K)) (pv 2) pe_int (fun _ _ => rfl)) pa_nil))))
      (pss_cons (ps_set (i := 5) sc_law.nd rfl (by first | exact Or.inl rfl | exact Or.inr rfl) (pe_call (ok_u_law_number T) (hr.mono (by decide)) (by rfl) T.g_u_law_number T.F_u_law_number.kp T.b_u_law_number .nil pass0 (pa_cons (pe_ix (kx_ix (K := K)) (pv 3) pe_int (fun _ _ => rfl)) (pa_cons (pe_ix (kx_ix (K := K)) (pv 3) pe_int (fun _ _ => rfl)) pa_nil))))
      (pss_cons (ps_if (PW.pt (pw_or (pt_not (pt_val (pe_call (ok_u_law_is_same T) (hr.mono (by decide)) (by rfl) T.g_u_law_is_same T.F_u_law_is_same.kp T.b_u_law_is_same .nil pass0 (pa_cons (pe_call (ok_number T) (hr.mono (by decide)) (by rfl) T.g_number T.F_number.kp T.b_number .nil pass0 (pa_cons (pe_ix (kx_ix (K := K)) (pv 2) pe_int (fun _ _ => rfl)) (pa_cons (pe_ix (kx_ix (K := K)) (pv 2) pe_int (fun _ _ => rfl)) pa_nil))) (pa_cons (pv 4) pa_nil))))) (pw_or1 (pt_not (pt_val (pe_call (ok_u_law_is_same T) (hr.mono (by decide)) (by rfl) T.g_u_law_is_same T.F_u_law_is_same.kp T.b_u_law_is_same .nil pass0 (pa_cons (pe_call (ok_number T) (hr.mono (by decide)) (by rfl) T.g_number T.F_number.kp T.b_number .nil pass0 (pa_cons (pe_ix (kx_ix (K := K)) (pv 3) pe_int (fun _ _ => rfl)) (pa_cons (pe_ix (kx_ix (K := K)) (pv 3) pe_int (fun _ _ => rfl)) pa_nil))) (pa_cons (pv 5) pa_nil)))))))) (pss_one (ps_ret pe_bl)) pss_nil)
      (pss_cons (ps_if (pt_not (pt_val (pe_call (ok_u_law_is_same T) (hr.mono (by decide)) (by rfl) T.g_u_law_is_same T.F_u_law_is_same.kp T.b_u_law_is_same .nil pass0 (pa_cons (pe_call (ok_plus T) (hr.mono (by decide)) (by rfl) T.g_plus T.F_plus.kp T.b_plus .nil pass0 (pa_cons (pv 4) (pa_cons (pv 5) pa_nil))) (pa_cons (pe_call (ok_u_law_plus T) (hr.mono (by decide)) (by rfl) T.g_u_law_plus T.F_u_law_plus.kp T.b_u_law_plus .nil pass0 (pa_cons (pv 4) (pa_cons (pv 5) pa_nil))) pa_nil))))) (pss_one (ps_ret pe_bl)) pss_nil)
      (pss_cons (ps_if (pt_not (pt_val (pe_call (ok_u_law_is_same T) (hr.mono (by decide)) (by rfl) T.g_u_law_is_same T.F_u_law_is_same.kp T.b_u_law_is_same .nil pass0 (pa_cons (pe_call (ok_minus T) (hr.mono (by decide)) (by rfl) T.g_minus T.F_minus.kp T.b_minus .nil pass0 (pa_cons (pv 4) (pa_cons (pv 5) pa_nil))) (pa_cons (pe_call (ok_u_law_plus T) (hr.mono (by decide)) (by rfl) T.g_u_law_plus T.F_u_law_plus.kp T.b_u_law_plus .nil pass0 (pa_cons (pv 4) (pa_cons (pe_tup (pa_cons (pe_un un_neg (pe_ix (kx_ix (K := K)) (pv 5) pe_int (fun _ _ => rfl))) (pa_cons (pe_ix (kx_ix (K := K)) (pv 5) pe_int (fun _ _ => rfl)) pa_nil))) pa_nil))) pa_nil))))) (pss_one (ps_ret pe_bl)) pss_nil)
      (pss_cons (ps_if (pt_not (pt_val (pe_call (ok_u_law_is_same T) (hr.mono (by decide)) (by rfl) T.g_u_law_is_same T.F_u_law_is_same.kp T.b_u_law_is_same .nil pass0 (pa_cons (pe_call (ok_times T) (hr.mono (by decide)) (by rfl) T.g_times T.F_times.kp T.b_times .nil pass0 (pa_cons (pv 4) (pa_cons (pv 5) pa_nil))) (pa_cons (pe_call (ok_u_law_times T) (hr.mono (by decide)) (by rfl) T.g_u_law_times T.F_u_law_times.kp T.b_u_law_times .nil pass0 (pa_cons (pv 4) (pa_cons (pv 5) pa_nil))) pa_nil))))) (pss_one (ps_ret pe_bl)) pss_nil)
      (pss_cons (ps_if (PW.pt (pw_and (pt_cmpR (kx_ne (K := K) hr.units) (pe_ix (kx_ix (K := K)) (pv 5) pe_int (fun _ _ => rfl)) pe_int (nomark _)) (pw_and1 (pt_not (pt_val (pe_call (ok_u_law_is_same T) (hr.mono (by decide)) (by rfl) T.g_u_law_is_same T.F_u_law_is_same.kp T.b_u_law_is_same .nil pass0 (pa_cons (pe_call (ok_over T) (hr.mono (by decide)) (by rfl) T.g_over T.F_over.kp T.b_over .nil pass0 (pa_cons (pv 4) (pa_cons (pv 5) pa_nil))) (pa_cons (pe_call (ok_u_law_times T) (hr.mono (by decide)) (by rfl) T.g_u_law_times T.F_u_law_times.kp T.b_u_law_times .nil pass0 (pa_cons (pv 4) (pa_cons (pe_call (ok_u_law_number T) (hr.mono (by decide)) (by rfl) T.g_u_law_number T.F_u_law_number.kp T.b_u_law_number .nil pass0 (pa_cons (pe_ix (kx_ix (K := K)) (pv 5) pe_int (fun _ _ => rfl)) (pa_cons (pe_ix (kx_ix (K := K)) (pv 5) pe_int (fun _ _ => rfl)) pa_nil))) pa_nil))) pa_nil)))))))) (pss_one (ps_ret pe_bl)) pss_nil)
      (pss_cons (ps_if (PW.pt (pw_or (pt_cmpR (kx_ne (K := K) hr.units) (pe_call (ok_less T) (hr.mono (by decide)) (by rfl) T.g_less T.F_less.kp T.b_less .nil pass0 (pa_cons (pv 4) (pa_cons (pv 5) pa_nil))) (pe_call (ok_u_law_less T) (hr.mono (by decide)) (by rfl) T.g_u_law_less T.F_u_law_less.kp T.b_u_law_less .nil pass0 (pa_cons (pv 4) (pa_cons (pv 5) pa_nil))) (nomark _)) (pw_or1 (pt_cmpR op_notBl (pe_call (ok_less T) (hr.mono (by decide)) (by rfl) T.g_less T.F_less.kp T.b_less .nil pass0 (pa_cons (pv 4) (pa_cons (pv 4) pa_nil))) pe_bl (nomark _))))) (pss_one (ps_ret pe_bl)) pss_nil)
      (pss_cons (ps_if (PW.pt (pw_or (pt_cmpR (kx_ne (K := K) hr.units) (pe_call (ok_sign T) (hr.mono (by decide)) (by rfl) T.g_sign T.F_sign.kp T.b_sign .nil pass0 (pa_cons (pv 4) pa_nil)) (pe_op op_sub (pe_callTy cr_intQ (by rfl) T.z_int (by decide +kernel) (pa_cons (pe_cmpR op_gt (pe_ix (kx_ix (K := K)) (pv 4) pe_int (fun _ _ => rfl)) pe_int (nomark _)) pa_nil)) (pe_callTy cr_intQ (by rfl) T.z_int (by decide +kernel) (pa_cons (pe_cmpR op_lt (pe_ix (kx_ix (K := K)) (pv 4) pe_int (fun _ _ => rfl)) pe_int (nomark _)) pa_nil))) (nomark _)) (pw_or1 (pt_cmpR (kx_ne (K := K) hr.units) (pe_call (ok_sign T) (hr.mono (by decide)) (by rfl) T.g_sign T.F_sign.kp T.b_sign .nil pass0 (pa_cons (pe_tup (pa_cons pe_int (pa_cons pe_int pa_nil))) pa_nil)) pe_int (nomark _))))) (pss_one (ps_ret pe_bl)) pss_nil)
      (pss_one (ps_ret (pe_call (ok_u_law_right_lists T) (hr.mono (by decide)) (by rfl) T.g_u_law_right_lists T.F_u_law_right_lists.kp T.b_u_law_right_lists .nil pass0 (pa_cons (pe_call (ok_u_law_parts T) (hr.mono (by decide)) (by rfl) T.g_u_law_parts T.F_u_law_parts.kp T.b_u_law_parts .nil pass0 (pa_cons (pe_call (ok_u_law_cell T) (hr.mono (by decide)) (by rfl) T.g_u_law_cell T.F_u_law_cell.kp T.b_u_law_cell .nil pass0 (pa_cons (pv 0) (pa_cons pe_int pa_nil))) (pa_cons (pe_op op_cat (pe_op op_rep (pe_lst (pa_cons pe_int pa_nil)) pe_int) (pe_lst (pa_cons pe_int (pa_cons pe_int (pa_cons pe_int pa_nil))))) pa_nil))) pa_nil)))))))))))))))), ?_⟩)
  all_goals (try simp only [nox_K, blk_K, cx_K])
  · rintro ds d ⟨ns, rfl, _⟩; rfl
  · rintro ds d ⟨ns, rfl, hl, rfl⟩
    have r0 : R_cell [.list (ns.map PyData.int), .int 0] (.int (ns.getD 0 0)) := ⟨ns, 0, rfl, rfl⟩
    have r1 : R_cell [.list (ns.map PyData.int), .int 1] (.int (ns.getD 1 0)) := ⟨ns, 1, rfl, rfl⟩
    generalize ns.getD 0 0 = c0 at r0
    generalize ns.getD 1 0 = c1 at r1
    have p0 : R_parts [.int c0, .list (sizes1.map PyData.int)] (.list ((partsOf c0 sizes1).map PyData.int)) := ⟨c0, sizes1, rfl, sizes_ok (by decide +kernel), by decide, rfl⟩
    have p1 : R_parts [.int c1, .list (sizes2.map PyData.int)] (.list ((partsOf c1 sizes2).map PyData.int)) := ⟨c1, sizes2, rfl, sizes_ok (by decide +kernel), by decide, rfl⟩
    have hl0 : (partsOf c0 sizes1).length = 10 := parts_len _ _
    have hl1 : (partsOf c1 sizes2).length = 11 := parts_len _ _
    have b0 := parts_get (cell := c0) (ss := sizes1) 0 (s := 3) rfl (by decide)
    have b3 := parts_get (cell := c0) (ss := sizes1) 3 (s := 12) rfl (by decide)
    have b4 := parts_get (cell := c0) (ss := sizes1) 4 (s := 2) rfl (by decide)
    have b5 := parts_get (cell := c0) (ss := sizes1) 5 (s := 3) rfl (by decide)
    have b8 := parts_get (cell := c0) (ss := sizes1) 8 (s := 12) rfl (by decide)
    have b9 := parts_get (cell := c0) (ss := sizes1) 9 (s := 2) rfl (by decide)
    have rl : R_rl [.list ((partsOf c1 sizes2).map PyData.int)] (.bool true) := by
      refine ⟨_, rfl, hl1, fun i hi => ?_, parts_get 8 rfl (by decide), parts_get 9 rfl (by decide), rfl⟩
      rcases (show i = 0 ∨ i = 1 ∨ i = 2 ∨ i = 3 ∨ i = 4 ∨ i = 5 ∨ i = 6 ∨ i = 7 by omega) with rfl | rfl | rfl | rfl | rfl | rfl | rfl | rfl <;> exact parts_get _ rfl (by decide)
    generalize partsOf c0 sizes1 = P0 at *
    generalize partsOf c1 sizes2 = P1 at *
    have q0 : R_pair [.list (P0.map PyData.int), .int 0] _ := ⟨P0, 0, rfl, by omega, b0, b3, b4, rfl⟩
    have q1 : R_pair [.list (P0.map PyData.int), .int 5] _ := ⟨P0, 5, rfl, by omega, b5, b8, b9, rfl⟩
    have s0 := pair_b (p0 := P0.getD 0 0) (p1 := P0.getD 1 0) (p2 := P0.getD 2 0) (p4 := P0.getD 4 0) b3
    have s1 := pair_b (p0 := P0.getD 5 0) (p1 := P0.getD 6 0) (p2 := P0.getD 7 0) (p4 := P0.getD 9 0) b8
    generalize pairM (P0.getD 0 0) (P0.getD (0 + 1) 0) (P0.getD (0 + 2) 0) (P0.getD (0 + 3) 0) (P0.getD (0 + 4) 0) = a at *
    generalize pairM (P0.getD 5 0) (P0.getD (5 + 1) 0) (P0.getD (5 + 2) 0) (P0.getD (5 + 3) 0) (P0.getD (5 + 4) 0) = b at *
    obtain ⟨a1, a2, a0⟩ := s0
    obtain ⟨b1, b2, b0⟩ := s1
    have na : R_number [.int a.1, .int a.2] (numV (nrm a.1 a.2)) := ⟨_, _, rfl, a0, a2.mono, rfl⟩
    have nb : R_number [.int b.1, .int b.2] (numV (nrm b.1 b.2)) := ⟨_, _, rfl, b0, b2.mono, rfl⟩
    have la : R_lnumber [.int a.1, .int a.2] (numV (nrm a.1 a.2)) := ⟨_, _, rfl, a0, a1.mono, a2.mono, rfl⟩
    have lb : R_lnumber [.int b.1, .int b.2] (numV (nrm b.1 b.2)) := ⟨_, _, rfl, b0, b1.mono, b2.mono, rfl⟩
    have f1 := nrm_sm a0 a1 a2
    have f2 := nrm_sm b0 b1 b2
    generalize nrm a.1 a.2 = f at *
    generalize nrm b.1 b.2 = g at *
    have fS : Sm 900 f := ⟨f1.1.mono, f1.2.1.mono, f1.2.2⟩
    have gS : Sm 900 g := ⟨f2.1.mono, f2.2.1.mono, f2.2.2⟩
    have fT : Sm 3900 f := ⟨f1.1.mono, f1.2.1.mono, f1.2.2⟩
    have gT : Sm 3900 g := ⟨f2.1.mono, f2.2.1.mono, f2.2.2⟩
    have same : ∀ x : Int × Int, R_same [numV x, numV x] (.bool true) := fun x => ⟨x, rfl, rfl⟩
    refine wp_seq (wp_asg (by repeat' first | walk_at "ev2" | exact r0 | exact p0 | (show -(2 ^ 63) ≤ _ ∧ _; decide) | fail) ?_)
    refine wp_seq (wp_asg (by repeat' first | walk_at "ev2" | exact q0 | fail) ?_)
    refine wp_seq (wp_asg (by repeat' first | walk_at "ev2" | exact q1 | fail) ?_)
    refine wp_seq (wp_asg (by repeat' first | walk_at "ev2" | exact la | fail) ?_)
    refine wp_seq (wp_asg (by repeat' first | walk_at "ev2" | exact lb | fail) ?_)
    refine wp_seq (wp_if (b := false) (ET.of (by repeat' first | walk_at "ev2" | exact na | exact nb | exact same _ | fail) (by rfl)) (fun h => nomatch h) (fun _ => wp_next ?_))
    have c2 : R_plus [numV f, numV g] _ := ⟨f, g, rfl, fT, gT, rfl⟩
    have d2 : R_lplus [numV f, numV g] _ := ⟨f, g, rfl, fS, gS, rfl⟩
    refine wp_seq (wp_if (b := false) (ET.of (by repeat' first | walk_at "ev2" | exact c2 | exact d2 | exact same _ | fail) (by rfl)) (fun h => nomatch h) (fun _ => wp_next ?_))
    have gN : Sm 900 (-g.1, g.2) := ⟨gS.1.neg, gS.2.1, gS.2.2⟩
    have c3 : R_minus [numV f, numV g] _ := ⟨f, g, rfl, fT, gT, rfl⟩
    have d3 : R_lplus [numV f, numV (-g.1, g.2)] (numV (nrm (f.1 * g.2 - g.1 * f.2) (f.2 * g.2))) := ⟨f, (-g.1, g.2), rfl, fS, gN, by
      show _ = numV (nrm (f.1 * g.2 + -g.1 * f.2) (f.2 * g.2))
      rw [Int.neg_mul]
      rfl⟩
    refine wp_seq (wp_if (b := false) (ET.of (by repeat' first | walk_at "ev2" | exact c3 | exact d3 | exact same _ | fail) (by rfl)) (fun h => nomatch h) (fun _ => wp_next ?_))
    have c4 : R_times [numV f, numV g] _ := ⟨f, g, rfl, fT, gT, rfl⟩
    have d4 : R_ltimes [numV f, numV g] _ := ⟨f, g, rfl, fS, gS, rfl⟩
    refine wp_seq (wp_if (b := false) (ET.of (by repeat' first | walk_at "ev2" | exact c4 | exact d4 | exact same _ | fail) (by rfl)) (fun h => nomatch h) (fun _ => wp_next ?_))
    -- over
    refine wp_seq (wp_if (b := false) ?_ (fun h => nomatch h) (fun _ => wp_next ?_))
    · by_cases z : g.1 = 0
      · refine ET.of (et_and (a := false) (b := false) (ET.of (by repeat' first | walk_at "ev2" | fail) (by rw [z]; rfl)) (fun h => nomatch h)) rfl
      · have e1 : Lt 1900 g.2 := f2.2.1.mono
        have e2 : Lt 1900 g.1 := f2.1.mono
        have d5 : R_lnumber [.int g.2, .int g.1] (numV (nrm g.2 g.1)) := ⟨_, _, rfl, z, e1, e2, rfl⟩
        have sq := nrm_sm (n := g.2) z f2.2.1 f2.1
        have hd := dvs_ne (n := g.2) z
        have c5 : R_over [numV f, numV g] (numV (nrm (f.1 * (nrm g.2 g.1).1) (f.2 * (nrm g.2 g.1).2))) := ⟨f, g, rfl, fT, gT, z, by
          have h1 := nrm_mul1 g.2 g.1
          have h2 := nrm_mul2 g.2 g.1
          generalize nrm g.2 g.1 = r at *
          generalize dvs g.2 g.1 = k at *
          rw [← h1, ← h2, ← Int.mul_assoc, ← Int.mul_assoc, nrm_scale (Int.mul_ne_zero fT.2.2 sq.2.2) hd]⟩
        have d6 : R_ltimes [numV f, numV (nrm g.2 g.1)] _ := ⟨f, nrm g.2 g.1, rfl, fS, ⟨sq.1.mono, sq.2.1.mono, sq.2.2⟩, rfl⟩
        refine ET.of (et_and (b := false) (by repeat' first | walk_at "ev2" | fail) (fun _ => ET.of (by repeat' first | walk_at "ev2" | exact c5 | exact d5 | exact d6 | exact same _ | fail) (by rfl))) (Bool.and_false _)
    -- less
    have c7 : R_less [numV f, numV g] _ := ⟨f, g, rfl, fT, gT, rfl⟩
    have d7 : R_lless [numV f, numV g] _ := ⟨f, g, rfl, fT, gT, rfl⟩
    have c8 : R_less [numV f, numV f] (.bool false) := ⟨f, f, rfl, fT, fT, by
      rw [decide_eq_false (Int.lt_irrefl _)]⟩
    refine wp_seq (wp_if (b := false) (ET.of (by repeat' first | walk_at "ev2" | exact c8 | exact c7 | exact d7 | exact Shp.shaped (n := 0) shp_bool | fail) (by
      show ((!(decide (f.1 * g.2 < g.1 * f.2) == decide (f.1 * g.2 < g.1 * f.2))) || (!decide (false = false))) = false
      rw [beq_self_eq_true]
      rfl)) (fun h => nomatch h) (fun _ => wp_next ?_))
    -- sign
    have c9 : R_sign [numV f] _ := ⟨f, rfl, rfl⟩
    have d9 : R_sign [numV (0, 1)] (.int 0) := ⟨(0, 1), rfl, rfl⟩
    have e9 := sgn_eq f.1
    refine wp_seq (wp_if (b := false) (ET.of (by repeat' first | walk_at "ev2" | exact c9 | exact d9 | walk_at "sh" | fail) (by
      show ((!(sgnI f.1 == (if decide (0 < f.1) = true then 1 else 0) - (if decide (f.1 < 0) = true then 1 else 0))) || (!((0 : Int) == 0))) = false
      rw [← e9, beq_self_eq_true]
      rfl)) (fun h => nomatch h) (fun _ => wp_next ?_))
    refine wp_ret (by repeat' first | walk_at "ev2" | exact r1 | exact p1 | exact rl | (show -(2 ^ 63) ≤ _ ∧ _; decide) | fail) rfl

theorem law_end {K : PySem.W.Frag} {H : Hp} {a : Addr} {ns : List Int} (hl : ns.length ≤ 63) (hS : SqL K H a (ns.map V.int)) : spD K R_law [.ref a] H (fun v _ => v = .bl true) (fun _ _ _ => False) :=
  ⟨H, [.list (ns.map PyData.int)], .bool true, ⟨ns, rfl, hl, rfl⟩, Same.refl _, .cons (.lst hS DpAll.ofInts) .nil, fun _ _ _ _ dv => Dp.bool_inv dv⟩
end
theorem all_mk {l : PySem.W.OpenLaw} {w : World} {K : PySem.W.Frag} {h : Heap} {mg : Str → Option Value} {fa : Addr} (X : K.In h) (G : h.Ns mainGlobals mg) (hfa : mg "law" = some (.ref fa))
    {f0 f1 f2 f3 f4 f5 f6 f7 f8 f9 f10 f11 f12 f13 f14 f15 f16 f17 f18 f19 f20 f21 : Addr}
    {od0 an0 : Option Addr} {sl0 : Array (Option Value)} {oc0 kV0 dc0 pm0 cd0 ct0 : Value}
    {od1 an1 : Option Addr} {sl1 : Array (Option Value)} {oc1 kV1 dc1 pm1 cd1 ct1 : Value}
    {od2 an2 : Option Addr} {sl2 : Array (Option Value)} {oc2 kV2 dc2 pm2 cd2 ct2 : Value}
    {od3 an3 : Option Addr} {sl3 : Array (Option Value)} {oc3 kV3 dc3 pm3 cd3 ct3 : Value}
    {od4 an4 : Option Addr} {sl4 : Array (Option Value)} {oc4 kV4 dc4 pm4 cd4 ct4 : Value}
    {od5 an5 : Option Addr} {sl5 : Array (Option Value)} {oc5 kV5 dc5 pm5 cd5 ct5 : Value}
    {od6 an6 : Option Addr} {sl6 : Array (Option Value)} {oc6 kV6 dc6 pm6 cd6 ct6 : Value}
    {od7 an7 : Option Addr} {sl7 : Array (Option Value)} {oc7 kV7 dc7 pm7 cd7 ct7 : Value}
    {od8 an8 : Option Addr} {sl8 : Array (Option Value)} {oc8 kV8 dc8 pm8 cd8 ct8 : Value}
    {od9 an9 : Option Addr} {sl9 : Array (Option Value)} {oc9 kV9 dc9 pm9 cd9 ct9 : Value}
    {od10 an10 : Option Addr} {sl10 : Array (Option Value)} {oc10 kV10 dc10 pm10 cd10 ct10 : Value}
    {od11 an11 : Option Addr} {sl11 : Array (Option Value)} {oc11 kV11 dc11 pm11 cd11 ct11 : Value}
    {od12 an12 : Option Addr} {sl12 : Array (Option Value)} {oc12 kV12 dc12 pm12 cd12 ct12 : Value}
    {od13 an13 : Option Addr} {sl13 : Array (Option Value)} {oc13 kV13 dc13 pm13 cd13 ct13 : Value}
    {od14 an14 : Option Addr} {sl14 : Array (Option Value)} {oc14 kV14 dc14 pm14 cd14 ct14 : Value}
    {od15 an15 : Option Addr} {sl15 : Array (Option Value)} {oc15 kV15 dc15 pm15 cd15 ct15 : Value}
    {od16 an16 : Option Addr} {sl16 : Array (Option Value)} {oc16 kV16 dc16 pm16 cd16 ct16 : Value}
    {od17 an17 : Option Addr} {sl17 : Array (Option Value)} {oc17 kV17 dc17 pm17 cd17 ct17 : Value}
    {od18 an18 : Option Addr} {sl18 : Array (Option Value)} {oc18 kV18 dc18 pm18 cd18 ct18 : Value}
    {od19 an19 : Option Addr} {sl19 : Array (Option Value)} {oc19 kV19 dc19 pm19 cd19 ct19 : Value}
    {od20 an20 : Option Addr} {sl20 : Array (Option Value)} {oc20 kV20 dc20 pm20 cd20 ct20 : Value}
    {od21 an21 : Option Addr} {sl21 : Array (Option Value)} {oc21 kV21 dc21 pm21 cd21 ct21 : Value}
    (a0 : PySem.W.nsIn K mainGlobals "number" = some (some (.ref f0))) (l0 : K.lookup f0 = some ⟨oc0, od0, .func (PySem.W.fnOf "number" "number" (defArgs s_number) (defBody s_number) (defScope s_number) .none kV0 dc0 pm0 an0 cd0 ct0), sl0⟩) (c0 : PySem.W.codeIn K cd0 "number" = true) (k0 : PySem.W.keepIn K (.ref f0) = true)
    (a1 : PySem.W.nsIn K mainGlobals "plus" = some (some (.ref f1))) (l1 : K.lookup f1 = some ⟨oc1, od1, .func (PySem.W.fnOf "plus" "plus" (defArgs s_plus) (defBody s_plus) (defScope s_plus) .none kV1 dc1 pm1 an1 cd1 ct1), sl1⟩) (c1 : PySem.W.codeIn K cd1 "plus" = true) (k1 : PySem.W.keepIn K (.ref f1) = true)
    (a2 : PySem.W.nsIn K mainGlobals "minus" = some (some (.ref f2))) (l2 : K.lookup f2 = some ⟨oc2, od2, .func (PySem.W.fnOf "minus" "minus" (defArgs s_minus) (defBody s_minus) (defScope s_minus) .none kV2 dc2 pm2 an2 cd2 ct2), sl2⟩) (c2 : PySem.W.codeIn K cd2 "minus" = true) (k2 : PySem.W.keepIn K (.ref f2) = true)
    (a3 : PySem.W.nsIn K mainGlobals "times" = some (some (.ref f3))) (l3 : K.lookup f3 = some ⟨oc3, od3, .func (PySem.W.fnOf "times" "times" (defArgs s_times) (defBody s_times) (defScope s_times) .none kV3 dc3 pm3 an3 cd3 ct3), sl3⟩) (c3 : PySem.W.codeIn K cd3 "times" = true) (k3 : PySem.W.keepIn K (.ref f3) = true)
    (a4 : PySem.W.nsIn K mainGlobals "over" = some (some (.ref f4))) (l4 : K.lookup f4 = some ⟨oc4, od4, .func (PySem.W.fnOf "over" "over" (defArgs s_over) (defBody s_over) (defScope s_over) .none kV4 dc4 pm4 an4 cd4 ct4), sl4⟩) (c4 : PySem.W.codeIn K cd4 "over" = true) (k4 : PySem.W.keepIn K (.ref f4) = true)
    (a5 : PySem.W.nsIn K mainGlobals "less" = some (some (.ref f5))) (l5 : K.lookup f5 = some ⟨oc5, od5, .func (PySem.W.fnOf "less" "less" (defArgs s_less) (defBody s_less) (defScope s_less) .none kV5 dc5 pm5 an5 cd5 ct5), sl5⟩) (c5 : PySem.W.codeIn K cd5 "less" = true) (k5 : PySem.W.keepIn K (.ref f5) = true)
    (a6 : PySem.W.nsIn K mainGlobals "sign" = some (some (.ref f6))) (l6 : K.lookup f6 = some ⟨oc6, od6, .func (PySem.W.fnOf "sign" "sign" (defArgs s_sign) (defBody s_sign) (defScope s_sign) .none kV6 dc6 pm6 an6 cd6 ct6), sl6⟩) (c6 : PySem.W.codeIn K cd6 "sign" = true) (k6 : PySem.W.keepIn K (.ref f6) = true)
    (a7 : PySem.W.nsIn K mainGlobals "lowest" = some (some (.ref f7))) (l7 : K.lookup f7 = some ⟨oc7, od7, .func (PySem.W.fnOf "lowest" "lowest" (defArgs s_lowest) (defBody s_lowest) (defScope s_lowest) .none kV7 dc7 pm7 an7 cd7 ct7), sl7⟩) (c7 : PySem.W.codeIn K cd7 "lowest" = true) (k7 : PySem.W.keepIn K (.ref f7) = true)
    (a8 : PySem.W.nsIn K mainGlobals "together" = some (some (.ref f8))) (l8 : K.lookup f8 = some ⟨oc8, od8, .func (PySem.W.fnOf "together" "together" (defArgs s_together) (defBody s_together) (defScope s_together) .none kV8 dc8 pm8 an8 cd8 ct8), sl8⟩) (c8 : PySem.W.codeIn K cd8 "together" = true) (k8 : PySem.W.keepIn K (.ref f8) = true)
    (a9 : PySem.W.nsIn K mainGlobals "brought" = some (some (.ref f9))) (l9 : K.lookup f9 = some ⟨oc9, od9, .func (PySem.W.fnOf "brought" "brought" (defArgs s_brought) (defBody s_brought) (defScope s_brought) .none kV9 dc9 pm9 an9 cd9 ct9), sl9⟩) (c9 : PySem.W.codeIn K cd9 "brought" = true) (k9 : PySem.W.keepIn K (.ref f9) = true)
    (a10 : PySem.W.nsIn K mainGlobals "_law_cell" = some (some (.ref f10))) (l10 : K.lookup f10 = some ⟨oc10, od10, .func (PySem.W.fnOf "_law_cell" "_law_cell" (defArgs s_u_law_cell) (defBody s_u_law_cell) (defScope s_u_law_cell) .none kV10 dc10 pm10 an10 cd10 ct10), sl10⟩) (c10 : PySem.W.codeIn K cd10 "_law_cell" = true) (k10 : PySem.W.keepIn K (.ref f10) = true)
    (a11 : PySem.W.nsIn K mainGlobals "_law_parts" = some (some (.ref f11))) (l11 : K.lookup f11 = some ⟨oc11, od11, .func (PySem.W.fnOf "_law_parts" "_law_parts" (defArgs s_u_law_parts) (defBody s_u_law_parts) (defScope s_u_law_parts) .none kV11 dc11 pm11 an11 cd11 ct11), sl11⟩) (c11 : PySem.W.codeIn K cd11 "_law_parts" = true) (k11 : PySem.W.keepIn K (.ref f11) = true)
    (a12 : PySem.W.nsIn K mainGlobals "_law_is_integer" = some (some (.ref f12))) (l12 : K.lookup f12 = some ⟨oc12, od12, .func (PySem.W.fnOf "_law_is_integer" "_law_is_integer" (defArgs s_u_law_is_integer) (defBody s_u_law_is_integer) (defScope s_u_law_is_integer) .none kV12 dc12 pm12 an12 cd12 ct12), sl12⟩) (c12 : PySem.W.codeIn K cd12 "_law_is_integer" = true) (k12 : PySem.W.keepIn K (.ref f12) = true)
    (a13 : PySem.W.nsIn K mainGlobals "_law_divisor" = some (some (.ref f13))) (l13 : K.lookup f13 = some ⟨oc13, od13, .func (PySem.W.fnOf "_law_divisor" "_law_divisor" (defArgs s_u_law_divisor) (defBody s_u_law_divisor) (defScope s_u_law_divisor) .none kV13 dc13 pm13 an13 cd13 ct13), sl13⟩) (c13 : PySem.W.codeIn K cd13 "_law_divisor" = true) (k13 : PySem.W.keepIn K (.ref f13) = true)
    (a14 : PySem.W.nsIn K mainGlobals "_law_number" = some (some (.ref f14))) (l14 : K.lookup f14 = some ⟨oc14, od14, .func (PySem.W.fnOf "_law_number" "_law_number" (defArgs s_u_law_number) (defBody s_u_law_number) (defScope s_u_law_number) .none kV14 dc14 pm14 an14 cd14 ct14), sl14⟩) (c14 : PySem.W.codeIn K cd14 "_law_number" = true) (k14 : PySem.W.keepIn K (.ref f14) = true)
    (a15 : PySem.W.nsIn K mainGlobals "_law_plus" = some (some (.ref f15))) (l15 : K.lookup f15 = some ⟨oc15, od15, .func (PySem.W.fnOf "_law_plus" "_law_plus" (defArgs s_u_law_plus) (defBody s_u_law_plus) (defScope s_u_law_plus) .none kV15 dc15 pm15 an15 cd15 ct15), sl15⟩) (c15 : PySem.W.codeIn K cd15 "_law_plus" = true) (k15 : PySem.W.keepIn K (.ref f15) = true)
    (a16 : PySem.W.nsIn K mainGlobals "_law_times" = some (some (.ref f16))) (l16 : K.lookup f16 = some ⟨oc16, od16, .func (PySem.W.fnOf "_law_times" "_law_times" (defArgs s_u_law_times) (defBody s_u_law_times) (defScope s_u_law_times) .none kV16 dc16 pm16 an16 cd16 ct16), sl16⟩) (c16 : PySem.W.codeIn K cd16 "_law_times" = true) (k16 : PySem.W.keepIn K (.ref f16) = true)
    (a17 : PySem.W.nsIn K mainGlobals "_law_less" = some (some (.ref f17))) (l17 : K.lookup f17 = some ⟨oc17, od17, .func (PySem.W.fnOf "_law_less" "_law_less" (defArgs s_u_law_less) (defBody s_u_law_less) (defScope s_u_law_less) .none kV17 dc17 pm17 an17 cd17 ct17), sl17⟩) (c17 : PySem.W.codeIn K cd17 "_law_less" = true) (k17 : PySem.W.keepIn K (.ref f17) = true)
    (a18 : PySem.W.nsIn K mainGlobals "_law_is_same" = some (some (.ref f18))) (l18 : K.lookup f18 = some ⟨oc18, od18, .func (PySem.W.fnOf "_law_is_same" "_law_is_same" (defArgs s_u_law_is_same) (defBody s_u_law_is_same) (defScope s_u_law_is_same) .none kV18 dc18 pm18 an18 cd18 ct18), sl18⟩) (c18 : PySem.W.codeIn K cd18 "_law_is_same" = true) (k18 : PySem.W.keepIn K (.ref f18) = true)
    (a19 : PySem.W.nsIn K mainGlobals "_law_pair" = some (some (.ref f19))) (l19 : K.lookup f19 = some ⟨oc19, od19, .func (PySem.W.fnOf "_law_pair" "_law_pair" (defArgs s_u_law_pair) (defBody s_u_law_pair) (defScope s_u_law_pair) .none kV19 dc19 pm19 an19 cd19 ct19), sl19⟩) (c19 : PySem.W.codeIn K cd19 "_law_pair" = true) (k19 : PySem.W.keepIn K (.ref f19) = true)
    (a20 : PySem.W.nsIn K mainGlobals "_law_right_lists" = some (some (.ref f20))) (l20 : K.lookup f20 = some ⟨oc20, od20, .func (PySem.W.fnOf "_law_right_lists" "_law_right_lists" (defArgs s_u_law_right_lists) (defBody s_u_law_right_lists) (defScope s_u_law_right_lists) .none kV20 dc20 pm20 an20 cd20 ct20), sl20⟩) (c20 : PySem.W.codeIn K cd20 "_law_right_lists" = true) (k20 : PySem.W.keepIn K (.ref f20) = true)
    (a21 : PySem.W.nsIn K mainGlobals "law" = some (some (.ref f21))) (l21 : K.lookup f21 = some ⟨oc21, od21, .func (PySem.W.fnOf "law" "law" (defArgs s_law) (defBody s_law) (defScope s_law) .none kV21 dc21 pm21 an21 cd21 ct21), sl21⟩) (c21 : PySem.W.codeIn K cd21 "law" = true) (k21 : PySem.W.keepIn K (.ref f21) = true)
    (z_abs : PySem.W.nsIn K mainGlobals "abs" = some none)
    (z_bool : PySem.W.nsIn K mainGlobals "bool" = some none)
    (z_int : PySem.W.nsIn K mainGlobals "int" = some none)
    (z_isinstance : PySem.W.nsIn K mainGlobals "isinstance" = some none)
    (z_len : PySem.W.nsIn K mainGlobals "len" = some none)
    (z_list : PySem.W.nsIn K mainGlobals "list" = some none)
    (z_max : PySem.W.nsIn K mainGlobals "max" = some none)
    (z_range : PySem.W.nsIn K mainGlobals "range" = some none)
    (z_tuple : PySem.W.nsIn K mainGlobals "tuple" = some none)
    (i_gcd : PySem.W.nsIn K mainGlobals "gcd" = some (some (.builtin "math.gcd")))
    (i_lcm : PySem.W.nsIn K mainGlobals "lcm" = some (some (.builtin "math.lcm")))
    : ∃ fd : FuncData, (∀ (s : Shared) (v : Value), BindsTo s fd ⟨[v], []⟩ [("script", v)]) ∧ ∀ base : Heap, K.In base → base.Ns mainGlobals mg → FnOk l.prog w K mg base CX0 4 fa fd ["script"] (spD K R_law) := by
  have e2 : f21 = fa := by
    have e := hfa.symm.trans (PySem.W.mg_of X G a21)
    cases e
    rfl
  subst e2
  have F0 := fun_mk (st := s_number) l0 c0 k0
  have F1 := fun_mk (st := s_plus) l1 c1 k1
  have F2 := fun_mk (st := s_minus) l2 c2 k2
  have F3 := fun_mk (st := s_times) l3 c3 k3
  have F4 := fun_mk (st := s_over) l4 c4 k4
  have F5 := fun_mk (st := s_less) l5 c5 k5
  have F6 := fun_mk (st := s_sign) l6 c6 k6
  have F7 := fun_mk (st := s_lowest) l7 c7 k7
  have F8 := fun_mk (st := s_together) l8 c8 k8
  have F9 := fun_mk (st := s_brought) l9 c9 k9
  have F10 := fun_mk (st := s_u_law_cell) l10 c10 k10
  have F11 := fun_mk (st := s_u_law_parts) l11 c11 k11
  have F12 := fun_mk (st := s_u_law_is_integer) l12 c12 k12
  have F13 := fun_mk (st := s_u_law_divisor) l13 c13 k13
  have F14 := fun_mk (st := s_u_law_number) l14 c14 k14
  have F15 := fun_mk (st := s_u_law_plus) l15 c15 k15
  have F16 := fun_mk (st := s_u_law_times) l16 c16 k16
  have F17 := fun_mk (st := s_u_law_less) l17 c17 k17
  have F18 := fun_mk (st := s_u_law_is_same) l18 c18 k18
  have F19 := fun_mk (st := s_u_law_pair) l19 c19 k19
  have F20 := fun_mk (st := s_u_law_right_lists) l20 c20 k20
  have F21 := fun_mk (st := s_law) l21 c21 k21
  let T : Txt K mg := {
    f_number := f0, fd_number := _, F_number := F0, g_number := PySem.W.mg_of X G a0,
    b_number := F0.binds (ps := ["n", "d"]) fun _ _ _ _ _ _ us hl => match us, hl with | [_, _], _ => rfl,
    f_plus := f1, fd_plus := _, F_plus := F1, g_plus := PySem.W.mg_of X G a1,
    b_plus := F1.binds (ps := ["a", "b"]) fun _ _ _ _ _ _ us hl => match us, hl with | [_, _], _ => rfl,
    f_minus := f2, fd_minus := _, F_minus := F2, g_minus := PySem.W.mg_of X G a2,
    b_minus := F2.binds (ps := ["a", "b"]) fun _ _ _ _ _ _ us hl => match us, hl with | [_, _], _ => rfl,
    f_times := f3, fd_times := _, F_times := F3, g_times := PySem.W.mg_of X G a3,
    b_times := F3.binds (ps := ["a", "b"]) fun _ _ _ _ _ _ us hl => match us, hl with | [_, _], _ => rfl,
    f_over := f4, fd_over := _, F_over := F4, g_over := PySem.W.mg_of X G a4,
    b_over := F4.binds (ps := ["a", "b"]) fun _ _ _ _ _ _ us hl => match us, hl with | [_, _], _ => rfl,
    f_less := f5, fd_less := _, F_less := F5, g_less := PySem.W.mg_of X G a5,
    b_less := F5.binds (ps := ["a", "b"]) fun _ _ _ _ _ _ us hl => match us, hl with | [_, _], _ => rfl,
    f_sign := f6, fd_sign := _, F_sign := F6, g_sign := PySem.W.mg_of X G a6,
    b_sign := F6.binds (ps := ["a"]) fun _ _ _ _ _ _ us hl => match us, hl with | [_], _ => rfl,
    f_lowest := f7, fd_lowest := _, F_lowest := F7, g_lowest := PySem.W.mg_of X G a7,
    b_lowest := F7.binds (ps := ["integers"]) fun _ _ _ _ _ _ us hl => match us, hl with | [_], _ => rfl,
    f_together := f8, fd_together := _, F_together := F8, g_together := PySem.W.mg_of X G a8,
    b_together := F8.binds (ps := ["numbers"]) fun _ _ _ _ _ _ us hl => match us, hl with | [_], _ => rfl,
    f_brought := f9, fd_brought := _, F_brought := F9, g_brought := PySem.W.mg_of X G a9,
    b_brought := F9.binds (ps := ["numbers"]) fun _ _ _ _ _ _ us hl => match us, hl with | [_], _ => rfl,
    f_u_law_cell := f10, fd_u_law_cell := _, F_u_law_cell := F10, g_u_law_cell := PySem.W.mg_of X G a10,
    b_u_law_cell := F10.binds (ps := ["script", "k"]) fun _ _ _ _ _ _ us hl => match us, hl with | [_, _], _ => rfl,
    f_u_law_parts := f11, fd_u_law_parts := _, F_u_law_parts := F11, g_u_law_parts := PySem.W.mg_of X G a11,
    b_u_law_parts := F11.binds (ps := ["cell", "sizes"]) fun _ _ _ _ _ _ us hl => match us, hl with | [_, _], _ => rfl,
    f_u_law_is_integer := f12, fd_u_law_is_integer := _, F_u_law_is_integer := F12, g_u_law_is_integer := PySem.W.mg_of X G a12,
    b_u_law_is_integer := F12.binds (ps := ["actual"]) fun _ _ _ _ _ _ us hl => match us, hl with | [_], _ => rfl,
    f_u_law_divisor := f13, fd_u_law_divisor := _, F_u_law_divisor := F13, g_u_law_divisor := PySem.W.mg_of X G a13,
    b_u_law_divisor := F13.binds (ps := ["a", "b"]) fun _ _ _ _ _ _ us hl => match us, hl with | [_, _], _ => rfl,
    f_u_law_number := f14, fd_u_law_number := _, F_u_law_number := F14, g_u_law_number := PySem.W.mg_of X G a14,
    b_u_law_number := F14.binds (ps := ["n", "d"]) fun _ _ _ _ _ _ us hl => match us, hl with | [_, _], _ => rfl,
    f_u_law_plus := f15, fd_u_law_plus := _, F_u_law_plus := F15, g_u_law_plus := PySem.W.mg_of X G a15,
    b_u_law_plus := F15.binds (ps := ["a", "b"]) fun _ _ _ _ _ _ us hl => match us, hl with | [_, _], _ => rfl,
    f_u_law_times := f16, fd_u_law_times := _, F_u_law_times := F16, g_u_law_times := PySem.W.mg_of X G a16,
    b_u_law_times := F16.binds (ps := ["a", "b"]) fun _ _ _ _ _ _ us hl => match us, hl with | [_, _], _ => rfl,
    f_u_law_less := f17, fd_u_law_less := _, F_u_law_less := F17, g_u_law_less := PySem.W.mg_of X G a17,
    b_u_law_less := F17.binds (ps := ["a", "b"]) fun _ _ _ _ _ _ us hl => match us, hl with | [_, _], _ => rfl,
    f_u_law_is_same := f18, fd_u_law_is_same := _, F_u_law_is_same := F18, g_u_law_is_same := PySem.W.mg_of X G a18,
    b_u_law_is_same := F18.binds (ps := ["actual", "due"]) fun _ _ _ _ _ _ us hl => match us, hl with | [_, _], _ => rfl,
    f_u_law_pair := f19, fd_u_law_pair := _, F_u_law_pair := F19, g_u_law_pair := PySem.W.mg_of X G a19,
    b_u_law_pair := F19.binds (ps := ["parts", "at"]) fun _ _ _ _ _ _ us hl => match us, hl with | [_, _], _ => rfl,
    f_u_law_right_lists := f20, fd_u_law_right_lists := _, F_u_law_right_lists := F20, g_u_law_right_lists := PySem.W.mg_of X G a20,
    b_u_law_right_lists := F20.binds (ps := ["parts"]) fun _ _ _ _ _ _ us hl => match us, hl with | [_], _ => rfl,
    f_law := f21, fd_law := _, F_law := F21, g_law := PySem.W.mg_of X G a21,
    z_abs := PySem.W.mg_none_of X G z_abs,
    z_bool := PySem.W.mg_none_of X G z_bool,
    z_int := PySem.W.mg_none_of X G z_int,
    z_isinstance := PySem.W.mg_none_of X G z_isinstance,
    z_len := PySem.W.mg_none_of X G z_len,
    z_list := PySem.W.mg_none_of X G z_list,
    z_max := PySem.W.mg_none_of X G z_max,
    z_range := PySem.W.mg_none_of X G z_range,
    z_tuple := PySem.W.mg_none_of X G z_tuple,
    i_gcd := PySem.W.mg_of X G i_gcd,
    i_lcm := PySem.W.mg_of X G i_lcm,
  }
  exact ⟨PySem.W.fnOf "law" "law" (defArgs s_law) (defBody s_law) (defScope s_law) .none kV21 dc21 pm21 an21 cd21 ct21, fun s v => .of_eq rfl, fun base _ _ => ok_law T⟩
end DX
open PySem PySem.W PyProof.Rows
set_option maxHeartbeats 0 in
theorem PySem.Challenge.cw_loadorloose_k01_numbers_holds : PySem.Challenge.rw_loadorloose_k01_numbers.Holds := by
  w_on; o_law; k_head; (case hw => w_witness2)
  k_fill
  refine L2.walk_of (l := PySem.Challenge.rw_loadorloose_k01_numbers) (n := 63) (k := 4) (x := "script") (CX := fun _ => L2.CX0) (sp := fun w => DX.spD _ DX.R_law) rfl (by decide) rfl ⟨rfl, by decide, by decide⟩ (fun w h Y => PySem.W.kIn_of Y) ?F (fun _ _ a ns hl _ hS => DX.law_end hl hS) (fun _ _ _ _ _ h => h)
  case F =>
    intro w mg fa h KX G hmg
    refine' DX.all_mk KX G hmg ?a0 ?l0 ?c0 ?k0 ?a1 ?l1 ?c1 ?k1 ?a2 ?l2 ?c2 ?k2 ?a3 ?l3 ?c3 ?k3 ?a4 ?l4 ?c4 ?k4 ?a5 ?l5 ?c5 ?k5 ?a6 ?l6 ?c6 ?k6 ?a7 ?l7 ?c7 ?k7 ?a8 ?l8 ?c8 ?k8 ?a9 ?l9 ?c9 ?k9 ?a10 ?l10 ?c10 ?k10 ?a11 ?l11 ?c11 ?k11 ?a12 ?l12 ?c12 ?k12 ?a13 ?l13 ?c13 ?k13 ?a14 ?l14 ?c14 ?k14 ?a15 ?l15 ?c15 ?k15 ?a16 ?l16 ?c16 ?k16 ?a17 ?l17 ?c17 ?k17 ?a18 ?l18 ?c18 ?k18 ?a19 ?l19 ?c19 ?k19 ?a20 ?l20 ?c20 ?k20 ?a21 ?l21 ?c21 ?k21 ?z_abs ?z_bool ?z_int ?z_isinstance ?z_len ?z_list ?z_max ?z_range ?z_tuple ?i_gcd ?i_lcm
    (case a0 => k_is); (case l0 => k_is); (case c0 => k_is); (case k0 => k_is); (case a1 => k_is); (case l1 => k_is); (case c1 => k_is); (case k1 => k_is); (case a2 => k_is); (case l2 => k_is); (case c2 => k_is); (case k2 => k_is); (case a3 => k_is); (case l3 => k_is); (case c3 => k_is); (case k3 => k_is); (case a4 => k_is); (case l4 => k_is); (case c4 => k_is); (case k4 => k_is); (case a5 => k_is); (case l5 => k_is); (case c5 => k_is); (case k5 => k_is); (case a6 => k_is); (case l6 => k_is); (case c6 => k_is); (case k6 => k_is); (case a7 => k_is); (case l7 => k_is); (case c7 => k_is); (case k7 => k_is); (case a8 => k_is); (case l8 => k_is); (case c8 => k_is); (case k8 => k_is); (case a9 => k_is); (case l9 => k_is); (case c9 => k_is); (case k9 => k_is); (case a10 => k_is); (case l10 => k_is); (case c10 => k_is); (case k10 => k_is); (case a11 => k_is); (case l11 => k_is); (case c11 => k_is); (case k11 => k_is); (case a12 => k_is); (case l12 => k_is); (case c12 => k_is); (case k12 => k_is); (case a13 => k_is); (case l13 => k_is); (case c13 => k_is); (case k13 => k_is); (case a14 => k_is); (case l14 => k_is); (case c14 => k_is); (case k14 => k_is); (case a15 => k_is); (case l15 => k_is); (case c15 => k_is); (case k15 => k_is); (case a16 => k_is); (case l16 => k_is); (case c16 => k_is); (case k16 => k_is); (case a17 => k_is); (case l17 => k_is); (case c17 => k_is); (case k17 => k_is); (case a18 => k_is); (case l18 => k_is); (case c18 => k_is); (case k18 => k_is); (case a19 => k_is); (case l19 => k_is); (case c19 => k_is); (case k19 => k_is); (case a20 => k_is); (case l20 => k_is); (case c20 => k_is); (case k20 => k_is); (case a21 => k_is); (case l21 => k_is); (case c21 => k_is); (case k21 => k_is); (case z_abs => k_is); (case z_bool => k_is); (case z_int => k_is); (case z_isinstance => k_is); (case z_len => k_is); (case z_list => k_is); (case z_max => k_is); (case z_range => k_is); (case z_tuple => k_is); (case i_gcd => k_is); (case i_lcm => k_is)

