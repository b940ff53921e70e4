import PyProof.Rows.All
import Wide.All
import OpenK.AllK
import Wide.FinOn
import HandS.ForMost
import HandS.Wide
import HandS.Gcd
import HandS.IsInst
import HandS.TupAny
import HandS.Conv
import HandS.Style
import PySem.Challenge.RW_loadorloose_k02_ranks
set_option Elab.async false
set_option linter.all false
set_option maxRecDepth 100000
set_option maxHeartbeats 4000000
namespace L2
open PySem
abbrev D := PyData
theorem sqT_up {K : PySem.W.Frag} {H H' : Hp} {a : Addr} {xs : List V} (e : Same H H') (h : SqT K H a xs) : SqT K H' a xs := by
  rcases h with (h | ⟨o, h⟩) | h
  · exact .inl (.inl (e _ _ h))
  · exact .inl (.inr ⟨o, e _ _ h⟩)
  · exact .inr h
theorem rd_up {H H' : Hp} {a : Addr} {u : HO} (e : Same H H') (h : Rd H a u) : Rd H' a u := by
  rcases h with h | ⟨o, h⟩
  · exact .inl (e _ _ h)
  · exact .inr ⟨o, e _ _ h⟩
mutual
inductive Dq (K : PySem.W.Frag) (H : Hp) : V → D → Prop
  | non : Dq K H .non .none
  | bl (b : Bool) : Dq K H (.bl b) (.bool b)
  | int (i : Int) : Dq K H (.int i) (.int i)
  | str (x : Str) : Dq K H (.str x) (.str x)
  | lst {a : Addr} {xs : List V} {ds : List D} : SqL K H a xs → DqAll K H xs ds → Dq K H (.ref a) (.list ds)
  | tup {a : Addr} {xs : List V} {ds : List D} : SqT K H a xs → DqAll K H xs ds → Dq K H (.ref a) (.tuple ds)
  | dct {a : Addr} {xs : List (Key × V)} {ds : List (D × D)} : Rd H a (.dK xs) → DqKv K H xs ds → Dq K H (.ref a) (.dict ds)
inductive DqAll (K : PySem.W.Frag) (H : Hp) : List V → List D → Prop
  | nil : DqAll K H [] []
  | cons {v : V} {vs : List V} {d : D} {ds : List D} : Dq K H v d → DqAll K H vs ds → DqAll K H (v :: vs) (d :: ds)
inductive DqKv (K : PySem.W.Frag) (H : Hp) : List (Key × V) → List (D × D) → Prop
  | nil : DqKv K H [] []
  | cons {k : Key} {v : V} {vs : List (Key × V)} {e d : D} {ds : List (D × D)} : Dq K H (kV k) e → Dq K H v d → DqKv K H vs ds → DqKv K H ((k, v) :: vs) ((e, d) :: ds)
end
section
variable {K : PySem.W.Frag} {H H' : Hp}
mutual
theorem Dq.up (e : Same H H') : ∀ (d : D) (v : V), Dq K H v d → Dq K H' v d
  | .none, _, h => by cases h; exact .non
  | .bool b, _, h => by cases h; exact .bl b
  | .int i, _, h => by cases h; exact .int i
  | .str x, _, h => by cases h; exact .str x
  | .list ds, _, h => by
    cases h with
    | lst hs ha => exact .lst (e.seq hs) (DqAll.up e ds _ ha)
  | .tuple ds, _, h => by
    cases h with
    | tup hs ha => exact .tup (sqT_up e hs) (DqAll.up e ds _ ha)
  | .dict ds, _, h => by
    cases h with
    | dct hs ha => exact .dct (rd_up e hs) (DqKv.up e ds _ ha)
theorem DqAll.up (e : Same H H') : ∀ (ds : List D) (vs : List V), DqAll K H vs ds → DqAll K H' vs ds
  | [], _, h => by cases h; exact .nil
  | d :: ds, _, h => by
    cases h with
    | cons h1 h2 => exact .cons (Dq.up e d _ h1) (DqAll.up e ds _ h2)
theorem DqKv.up (e : Same H H') : ∀ (ds : List (D × D)) (vs : List (Key × V)), DqKv K H vs ds → DqKv K H' vs ds
  | [], _, h => by cases h; exact .nil
  | (f, d) :: ds, _, h => by
    cases h with
    | cons h1 h2 h3 => exact .cons (Dq.up e f _ h1) (Dq.up e d _ h2) (DqKv.up e ds _ h3)
end
mutual
theorem Dq.dp : ∀ (d : D) (v : V), Dq K H v d → d.canLay0 = true → Dp K H v d
  | .none, _, h, _ => by cases h; exact .non
  | .bool b, _, h, _ => by cases h; exact .bl b
  | .int i, _, h, _ => by cases h; exact .int i
  | .str x, _, h, _ => by cases h; exact .str x
  | .list ds, _, h, c => by
    simp only [PyData.canLay0] at c
    cases h with
    | lst hs ha => exact .lst hs (DqAll.dp ds _ ha c)
  | .tuple ds, _, h, c => by
    simp only [PyData.canLay0] at c
    cases h with
    | tup hs ha => exact .tup hs (DqAll.dp ds _ ha c)
  | .dict ds, _, h, c => by simp only [PyData.canLay0] at c; cases c
theorem DqAll.dp : ∀ (ds : List D) (vs : List V), DqAll K H vs ds → PyData.canLayAll0 ds = true → DpAll K H vs ds
  | [], _, h, _ => by cases h; exact .nil
  | d :: ds, _, h, c => by
    simp only [PyData.canLayAll0, Bool.and_eq_true] at c
    cases h with
    | cons h1 h2 => exact .cons (Dq.dp d _ h1 c.1) (DqAll.dp ds _ h2 c.2)
end
theorem DqKv.len : ∀ {vs : List (Key × V)} {ds : List (D × D)}, DqKv K H vs ds → vs.length = ds.length
  | _, [], h => by cases h; rfl
  | _, d :: ds, h => by
    cases h with
    | cons h1 h2 h3 => simp only [List.length_cons]; rw [DqKv.len h3]
theorem DqAll.len : ∀ {vs : List V} {ds : List D}, DqAll K H vs ds → vs.length = ds.length
  | _, [], h => by cases h; rfl
  | _, d :: ds, h => by
    cases h with
    | cons h1 h2 => simp only [List.length_cons]; rw [DqAll.len h2]
theorem DqAll.get : ∀ {vs : List V} {ds : List D} {i : Nat} {d : D}, DqAll K H vs ds → ds[i]? = some d → ∃ v, vs[i]? = some v ∧ Dq K H v d
  | _, [], _, _, _, e => by simp at e
  | _, x :: ds, 0, d, h, e => by
    cases h with
    | cons h1 h2 => simp at e; subst e; exact ⟨_, rfl, h1⟩
  | _, x :: ds, i + 1, d, h, e => by
    cases h with
    | cons h1 h2 =>
      obtain ⟨v, a, b⟩ := DqAll.get (i := i) h2 (by simpa using e)
      exact ⟨v, by simpa using a, b⟩
theorem DqAll.getV : ∀ {vs : List V} {ds : List D} {i : Nat} {v : V}, DqAll K H vs ds → vs[i]? = some v → ∃ d, ds[i]? = some d ∧ Dq K H v d
  | [], _, _, _, _, e => by simp at e
  | x :: vs, _, 0, d, h, e => by
    cases h with
    | cons h1 h2 => simp at e; subst e; exact ⟨_, rfl, h1⟩
  | x :: vs, _, i + 1, d, h, e => by
    cases h with
    | cons h1 h2 =>
      obtain ⟨v, a, b⟩ := DqAll.getV (i := i) h2 (by simpa using e)
      exact ⟨v, by simpa using a, b⟩
theorem DqAll.app : ∀ {vs ws : List V} {ds es : List D}, DqAll K H vs ds → DqAll K H ws es → DqAll K H (vs ++ ws) (ds ++ es)
  | _, _, [], _, h, h' => by cases h; exact h'
  | _, _, d :: ds, _, h, h' => by
    cases h with
    | cons h1 h2 => exact .cons h1 (DqAll.app h2 h')
theorem DqAll.take : ∀ (n : Nat) {vs : List V} {ds : List D}, DqAll K H vs ds → DqAll K H (vs.take n) (ds.take n)
  | 0, _, _, _ => .nil
  | n + 1, _, [], h => by cases h; exact .nil
  | n + 1, _, d :: ds, h => by
    cases h with
    | cons h1 h2 => exact .cons h1 (DqAll.take n h2)
theorem DqAll.drop : ∀ (n : Nat) {vs : List V} {ds : List D}, DqAll K H vs ds → DqAll K H (vs.drop n) (ds.drop n)
  | 0, _, _, h => h
  | n + 1, _, [], h => by cases h; exact .nil
  | n + 1, _, d :: ds, h => by
    cases h with
    | cons h1 h2 => exact DqAll.drop n h2
theorem DqAll.set {v : V} {d : D} (q : Dq K H v d) : ∀ (n : Nat) {vs : List V} {ds : List D}, DqAll K H vs ds → DqAll K H (vs.set n v) (ds.set n d)
  | _, _, [], h => by cases h; exact .nil
  | 0, _, e :: ds, h => by
    cases h with
    | cons h1 h2 => exact .cons q h2
  | n + 1, _, e :: ds, h => by
    cases h with
    | cons h1 h2 => exact .cons h1 (DqAll.set q n h2)
/-- ints -/
theorem DqAll.ints : ∀ {ns : List Int} {vs : List V}, DqAll K H vs (ns.map PyData.int) → vs = ns.map V.int
  | [], _, h => by cases h; rfl
  | n :: ns, _, h => by
    cases h with
    | cons h1 h2 => cases h1; rw [DqAll.ints h2]; rfl
theorem DqAll.ofInts : ∀ {ns : List Int}, DqAll K H (ns.map V.int) (ns.map PyData.int)
  | [] => .nil
  | n :: ns => .cons (.int n) DqAll.ofInts
theorem DqAll.bools : ∀ {ns : List Bool} {vs : List V}, DqAll K H vs (ns.map PyData.bool) → vs = ns.map V.bl
  | [], _, h => by cases h; rfl
  | n :: ns, _, h => by
    cases h with
    | cons h1 h2 => cases h1; rw [DqAll.bools h2]; rfl
end

section
variable {K : PySem.W.Frag}
theorem Dq.int_inv {H : Hp} {v : V} {i : Int} (h : Dq K H v (.int i)) : v = .int i := by cases h; rfl
theorem Dq.bool_inv {H : Hp} {v : V} {b : Bool} (h : Dq K H v (.bool b)) : v = .bl b := by cases h; rfl
end
end L2
namespace DX
open PySem L2

/-! ### the local names -/
inductive OD where
  | l (ds : List D)
  | m (es : List (D × D))
inductive SV where
  | no
  | val (d : D)
  | own (x : OD)
def OwnRep (K : PySem.W.Frag) (B : Hp) (o : HO) : OD → Prop
  | .l ds => ∃ vs, o = .lst vs ∧ DqAll K B vs ds
  | .m es => ∃ kvs, o = .dK kvs ∧ DqKv K B kvs es
theorem OwnRep.up {K : PySem.W.Frag} {B B' : Hp} {o : HO} (e : Same B B') : ∀ {x : OD}, OwnRep K B o x → OwnRep K B' o x
  | .l ds, ⟨vs, a, b⟩ => ⟨vs, a, DqAll.up e ds _ b⟩
  | .m es, ⟨vs, a, b⟩ => ⟨vs, a, DqKv.up e es _ b⟩

structure Hist (B0 H0 B H : Hp) : Prop where
  bb : Same B0 B
  bh : Same B H
  hh : Same H0 H
  fr : ∀ a, H0 a ≠ none → B0 a = none → B a = none

def SlotOk (K : PySem.W.Frag) (B H H0 : Hp) (o : Option V) : SV → Prop
  | .no => True
  | .val d => ∃ v, o = some v ∧ Dq K B v d
  | .own x => ∃ p u, o = some (.ref p) ∧ H p = some u ∧ B p = none ∧ H0 p = none ∧ OwnRep K B u x

structure Sd (K : PySem.W.Frag) (B0 H0 B H : Hp) (σ : L2.St) (δ : List SV) : Prop where
  hist : Hist B0 H0 B H
  len : σ.length = δ.length
  ok : ∀ (i : Nat) (s : SV), δ[i]? = some s → ∃ o, σ[i]? = some o ∧ SlotOk K B H H0 o s
  apart : ∀ (i j : Nat) (p : Addr) (ds es : OD), i ≠ j → δ[i]? = some (.own ds) → δ[j]? = some (.own es) → σ[i]? = some (some (.ref p)) → σ[j]? ≠ some (some (.ref p))

section
variable {K : PySem.W.Frag} {B0 H0 B H B' H' : Hp} {σ : L2.St} {δ : List SV}

/-- a step that leaves what is there -/
structure Stp (B H B' H' : Hp) : Prop where
  bb : Same B B'
  bh : Same B' H'
  hh : Same H H'
  fr : ∀ a, H a ≠ none → B a = none → B' a = none
theorem Stp.refl (h : Same B H) : Stp B H B H := ⟨Same.refl _, h, Same.refl _, fun _ _ z => z⟩
theorem ne_none_of {a : Addr} (e : Same H H') (h : H a ≠ none) : H' a ≠ none := by
  cases q : H a with
  | none => exact absurd q h
  | some o => rw [e a o q]; exact fun z => nomatch z
theorem Stp.trans {B1 H1 B2 H2 : Hp} (a : Stp B H B1 H1) (b : Stp B1 H1 B2 H2) : Stp B H B2 H2 :=
  ⟨a.bb.trans b.bb, b.bh, a.hh.trans b.hh, fun x h z => b.fr x (ne_none_of a.hh h) (a.fr x h z)⟩
theorem Stp.hist (s : Stp B H B' H') (h : Hist B0 H0 B H) : Hist B0 H0 B' H' :=
  ⟨h.bb.trans s.bb, s.bh, h.hh.trans s.hh, fun x q z => s.fr x (ne_none_of h.hh q) (h.fr x q z)⟩
theorem SlotOk.step {o : Option V} {x : SV} (s : Stp B H B' H') (h : SlotOk K B H H0 o x) : SlotOk K B' H' H0 o x := by
  cases x with
  | no => exact True.intro
  | val d => obtain ⟨v, e, q⟩ := h; exact ⟨v, e, Dq.up s.bb _ _ q⟩
  | own ds =>
    obtain ⟨p, vs, e, hp, bp, h0, q⟩ := h
    exact ⟨p, vs, e, s.hh _ _ hp, s.fr p (by rw [hp]; exact fun z => nomatch z) bp, h0, q.up s.bb⟩
theorem Sd.step (S : Sd K B0 H0 B H σ δ) (s : Stp B H B' H') : Sd K B0 H0 B' H' σ δ :=
  ⟨s.hist S.hist, S.len, fun i x e => by
    obtain ⟨o, a, q⟩ := S.ok i x e
    exact ⟨o, a, q.step s⟩, S.apart⟩
theorem same_new {p : Addr} {o : HO} (h : H p = none) : Same H (upd H p o) := fun b x e => by
  rw [upd_ne (ne_of_none e h)]; exact e
/-- a new object, known to both -/
theorem Stp.new {p : Addr} {o : HO} (bh : Same B H) (h : H p = none) : Stp B H (upd B p o) (upd H p o) := by
  have hb : B p = none := bh.free h
  refine ⟨same_new hb, fun a u e => ?_, same_new h, fun a q z => ?_⟩
  · by_cases ha : a = p
    · subst ha; rw [upd_same] at e ⊢; exact e
    · rw [upd_ne ha] at e ⊢; exact bh _ _ e
  · have ha : a ≠ p := fun e => by subst e; exact q h
    rw [upd_ne ha]; exact z
/-- a new object, owned -/
theorem Stp.newOwn {p : Addr} {o : HO} (bh : Same B H) (h : H p = none) : Stp B H B (upd H p o) :=
  ⟨Same.refl _, fun a u e => same_new h _ _ (bh _ _ e), same_new h, fun _ _ z => z⟩
/-- an owned one is made known -/
theorem Stp.know {p : Addr} {o : HO} (bh : Same B H) (hb : B p = none) (hp : H p = some o) : Same B (upd B p o) ∧ Same (upd B p o) H := by
  refine ⟨same_new hb, fun a u e => ?_⟩
  by_cases ha : a = p
  · subst ha; rw [upd_same] at e; rw [← e]; exact hp
  · rw [upd_ne ha] at e; exact bh _ _ e
theorem Sd.slot (S : Sd K B0 H0 B H σ δ) {i : Nat} {d : D} (e : δ[i]? = some (.val d)) : ∃ v, σ[i]? = some (some v) ∧ Dq K B v d := by
  obtain ⟨o, a, v, rfl, q⟩ := S.ok i _ e
  exact ⟨v, a, q⟩
theorem Sd.slotObj (S : Sd K B0 H0 B H σ δ) {i : Nat} {x : OD} (e : δ[i]? = some (.own x)) : ∃ p u, σ[i]? = some (some (.ref p)) ∧ H p = some u ∧ B p = none ∧ H0 p = none ∧ OwnRep K B u x := by
  obtain ⟨o, a, p, vs, rfl, q⟩ := S.ok i _ e
  exact ⟨p, vs, a, q⟩
theorem Sd.slotOwn (S : Sd K B0 H0 B H σ δ) {i : Nat} {ds : List D} (e : δ[i]? = some (.own (.l ds))) : ∃ p vs, σ[i]? = some (some (.ref p)) ∧ H p = some (.lst vs) ∧ B p = none ∧ H0 p = none ∧ DqAll K B vs ds := by
  obtain ⟨p, u, a, hp, b, h0, vs, rfl, q⟩ := S.slotObj e
  exact ⟨p, vs, a, hp, b, h0, q⟩
theorem Sd.slotMap (S : Sd K B0 H0 B H σ δ) {i : Nat} {es : List (D × D)} (e : δ[i]? = some (.own (.m es))) : ∃ p vs, σ[i]? = some (some (.ref p)) ∧ H p = some (.dK vs) ∧ B p = none ∧ H0 p = none ∧ DqKv K B vs es := by
  obtain ⟨p, u, a, hp, b, h0, vs, rfl, q⟩ := S.slotObj e
  exact ⟨p, vs, a, hp, b, h0, q⟩
theorem get_set {α : Type} {xs : List α} {i j : Nat} {x y : α} (h : (xs.set i x)[j]? = some y) : (i = j ∧ x = y) ∨ (i ≠ j ∧ xs[j]? = some y) := by
  by_cases e : i = j
  · subst e
    have hl : i < xs.length := by
      have := (List.getElem?_eq_some_iff.mp h).1
      simpa using this
    rw [List.getElem?_set_self hl] at h
    exact .inl ⟨rfl, Option.some.inj h⟩
  · rw [List.getElem?_set_ne e] at h
    exact .inr ⟨e, h⟩
theorem set_some {α : Type} {xs : List α} {i j : Nat} {x : α} (h : j < xs.length) : ∃ y, (xs.set i x)[j]? = some y ∧ ((i = j ∧ y = x) ∨ (i ≠ j ∧ xs[j]? = some y)) := by
  have h' : j < (xs.set i x).length := by rw [List.length_set]; exact h
  refine ⟨_, List.getElem?_eq_getElem h', ?_⟩
  rcases get_set (List.getElem?_eq_getElem h') with ⟨a, b⟩ | ⟨a, b⟩
  · exact .inl ⟨a, b.symm⟩
  · exact .inr ⟨a, b⟩
/-- a slot is stored -/
theorem Sd.set (S : Sd K B0 H0 B H σ δ) {i : Nat} {o : Option V} {x : SV} (h : SlotOk K B H H0 o x)
    (ap : ∀ ds, x = .own ds → ∀ j p es, i ≠ j → o = some (.ref p) → δ[j]? = some (.own es) → σ[j]? ≠ some (some (.ref p))) : Sd K B0 H0 B H (σ.set i o) (δ.set i x) := by
  refine ⟨S.hist, by rw [List.length_set, List.length_set]; exact S.len, fun j s e => ?_, fun j k p ds es n e1 e2 e3 e4 => ?_⟩
  · have hj : j < σ.length := by
      have := (List.getElem?_eq_some_iff.mp e).1
      rw [List.length_set] at this
      rw [S.len]; exact this
    obtain ⟨y, hy, c⟩ := set_some (xs := σ) (i := i) (x := o) hj
    rcases get_set e with ⟨a, b⟩ | ⟨a, b⟩
    · subst b
      rcases c with ⟨_, c⟩ | ⟨c, _⟩
      · subst c; exact ⟨_, hy, h⟩
      · exact absurd a c
    · rcases c with ⟨c, _⟩ | ⟨_, c⟩
      · exact absurd c a
      · obtain ⟨o', q, w⟩ := S.ok j s b
        rw [q] at c; cases c
        exact ⟨_, hy, w⟩
  · rcases get_set e1 with ⟨a, b⟩ | ⟨a, b⟩
    · rcases get_set e2 with ⟨a', b'⟩ | ⟨a', b'⟩
      · exact n (a.symm.trans a')
      · rcases get_set e3 with ⟨c, d⟩ | ⟨c, d⟩
        · rcases get_set e4 with ⟨c', d'⟩ | ⟨c', d'⟩
          · exact a' c'
          · exact ap ds b k p es a' d b' d'
        · exact absurd a c
    · rcases get_set e2 with ⟨a', b'⟩ | ⟨a', b'⟩
      · rcases get_set e4 with ⟨c, d⟩ | ⟨c, d⟩
        · rcases get_set e3 with ⟨c', d'⟩ | ⟨c', d'⟩
          · exact a c'
          · exact ap es b' j p ds a d b d'
        · exact absurd a' c
      · rcases get_set e3 with ⟨c, d⟩ | ⟨c, d⟩
        · exact absurd c a
        · rcases get_set e4 with ⟨c', d'⟩ | ⟨c', d'⟩
          · exact absurd c' a'
          · exact S.apart j k p ds es n b b' d d'
theorem Sd.setVal (S : Sd K B0 H0 B H σ δ) {i : Nat} {v : V} {d : D} (h : Dq K B v d) : Sd K B0 H0 B H (σ.set i (some v)) (δ.set i (.val d)) :=
  S.set ⟨v, rfl, h⟩ fun _ z => nomatch z
/-- a slot is forgotten -/
theorem Sd.forget (S : Sd K B0 H0 B H σ δ) {i : Nat} {o : Option V} : Sd K B0 H0 B H (σ.set i o) (δ.set i .no) :=
  S.set True.intro fun _ z => nomatch z
/-- another past -/
theorem Sd.past {B1 : Hp} (S : Sd K B0 H0 B H σ δ) (h0 : Same B0 B1) (h : Same B1 B) : Sd K B1 H0 B H σ δ :=
  ⟨⟨h, S.hist.bh, S.hist.hh, fun a q z => S.hist.fr a q (h0.free z)⟩, S.len, S.ok, S.apart⟩
theorem Hist.back {B1 H1 : Hp} (S : Hist B1 H0 B H) (h0 : Hist B0 H0 B1 H1) : Hist B0 H0 B H :=
  ⟨h0.bb.trans S.bb, S.bh, S.hh, fun a q z => S.fr a q (h0.fr a q z)⟩
theorem Sd.back {B1 H1 : Hp} (S : Sd K B1 H0 B H σ δ) (h0 : Hist B0 H0 B1 H1) : Sd K B0 H0 B H σ δ :=
  ⟨S.hist.back h0, S.len, S.ok, S.apart⟩
end

/-! ### what an expression gives -/
section
variable (K : PySem.W.Frag)
def ED (te : TE) (δ : List SV) (d : D) : Prop := ∀ (B0 H0 B H : Hp) (σ : L2.St) (Q : VK), Sd K B0 H0 B H σ δ → (∀ v B' H', Stp B H B' H' → Dq K B' v d → Q v H') → te σ H Q
def ET (tt : TT) (δ : List SV) (b : Bool) : Prop := ∀ (B0 H0 B H : Hp) (σ : L2.St) (Q : Bool → Hp → Prop), Sd K B0 H0 B H σ δ → (∀ B' H', Stp B H B' H' → Q b H') → tt σ H Q
def EA (ta : TA) (δ : List SV) (ds : List D) : Prop := ∀ (B0 H0 B H : Hp) (σ : L2.St) (Q : List V → Hp → Prop), Sd K B0 H0 B H σ δ → (∀ vs B' H', Stp B H B' H' → DqAll K B' vs ds → Q vs H') → ta σ H Q
def EO (to : TO) (δ : List SV) (o : Option Int) : Prop := ∀ (B0 H0 B H : Hp) (σ : L2.St) (Q : Option Int → Hp → Prop), Sd K B0 H0 B H σ δ → (∀ B' H', Stp B H B' H' → Q o H') → to σ H Q
/-- a new list -/
def EN (te : TE) (δ : List SV) (ds : List D) : Prop := ∀ (B0 H0 B H : Hp) (σ : L2.St) (Q : VK), Sd K B0 H0 B H σ δ → (∀ p vs B' H', Stp B H B' H' → H p = none → B' p = none → H' p = some (.lst vs) → DqAll K B' vs ds → Q (.ref p) H') → te σ H Q
end
section
variable {K : PySem.W.Frag} {δ : List SV} {ta tb te : TE} {t u : TT} {d x y : D} {ds es : List D}
theorem EN.ed (h : EN K te δ ds) : ED K te δ (.list ds) := fun B0 H0 B H σ Q S q => h B0 H0 B H σ Q S fun p vs B' H' s hn hb hp a => by
  obtain ⟨k1, k2⟩ := Stp.know (o := .lst vs) s.bh hb hp
  refine q (.ref p) (upd B' p (.lst vs)) H' ⟨s.bb.trans k1, k2, s.hh, fun b q1 z => ?_⟩ (.lst (.inl (.inl upd_same)) (DqAll.up k1 _ _ a))
  have hbp : b ≠ p := fun e => by subst e; exact q1 hn
  rw [upd_ne hbp]
  exact s.fr b q1 z
theorem ed_var {i : Nat} (h : δ[i]? = some (.val d)) : ED K (tVar i) δ d := fun B0 H0 B H σ Q S q => by
  obtain ⟨v, a, b⟩ := S.slot h
  exact ⟨v, a, q v B H (.refl S.hist.bh) b⟩
inductive Sc : V → D → Prop
  | non : Sc .non .none
  | bl (b : Bool) : Sc (.bl b) (.bool b)
  | int (i : Int) : Sc (.int i) (.int i)
  | str (x : Str) : Sc (.str x) (.str x)
theorem Sc.dp {H : Hp} {v : V} : Sc v d → Dq K H v d
  | .non => .non
  | .bl b => .bl b
  | .int i => .int i
  | .str x => .str x
theorem ed_c {v : V} (h : Sc v d) : ED K (tC v) δ d := fun B0 H0 B H σ Q S q => q v B H (.refl S.hist.bh) h.dp
theorem ed_int {i : Int} : ED K (tC (.int i)) δ (.int i) := ed_c (.int i)
theorem ed_bl {b : Bool} : ED K (tC (.bl b)) δ (.bool b) := ed_c (.bl b)
theorem ed_non : ED K (tC .non) δ .none := ed_c .non
theorem ed_str {x : Str} : ED K (tC (.str x)) δ (.str x) := ed_c (.str x)
theorem ed_rI {C : Int → Int → Prop} {g : Int → Int → V} {i j : Int} (ha : ED K ta δ (.int i)) (hb : ED K tb δ (.int j)) (hc : C i j) (hg : Sc (g i j) d) : ED K (tOp (rI C g) ta tb) δ d := fun B0 H0 B H σ Q S q =>
  ha B0 H0 B H σ _ S fun v B1 H1 s1 a => hb B0 H0 B1 H1 σ _ (S.step s1) fun w B2 H2 s2 b => by
    cases Dq.int_inv a; cases Dq.int_inv b
    exact ⟨i, j, rfl, rfl, hc, q _ B2 H2 (s1.trans s2) hg.dp⟩
theorem ed_rI0 {g : Int → Int → V} {i j : Int} (ha : ED K ta δ (.int i)) (hb : ED K tb δ (.int j)) (hg : Sc (g i j) d) : ED K (tOp (rI0 g) ta tb) δ d := fun B0 H0 B H σ Q S q =>
  ha B0 H0 B H σ _ S fun v B1 H1 s1 a => hb B0 H0 B1 H1 σ _ (S.step s1) fun w B2 H2 s2 b => by
    cases Dq.int_inv a; cases Dq.int_inv b
    exact ⟨i, j, rfl, rfl, q _ B2 H2 (s1.trans s2) hg.dp⟩
theorem ed_rU {g : Int → V} {i : Int} (ha : ED K ta δ (.int i)) (hg : Sc (g i) d) : ED K (tUn (rU g) ta) δ d := fun B0 H0 B H σ Q S q =>
  ha B0 H0 B H σ _ S fun v B1 H1 s1 a => by
    cases Dq.int_inv a
    exact ⟨i, rfl, q _ B1 H1 s1 hg.dp⟩
theorem ed_eqD (ha : ED K ta δ x) (hb : ED K tb δ y) (sx : SeqAt.shaped x = true) (sy : SeqAt.shaped y = true) {b : Bool} (e : PyData.eqv x y = b) : ED K (tOp (rEqD K) ta tb) δ (.bool b) := fun B0 H0 B H σ Q S q =>
  ha B0 H0 B H σ _ S fun v B1 H1 s1 a => hb B0 H0 B1 H1 σ _ (S.step s1) fun w B2 H2 s2 c =>
    ⟨x, y, Dq.dp _ _ (Dq.up (s2.bb.trans s2.bh) _ _ a) (PySem.SeqAt.canLay_of_shaped sx), Dq.dp _ _ (Dq.up s2.bh _ _ c) (PySem.SeqAt.canLay_of_shaped sy), sx, sy, by rw [e]; exact q _ B2 H2 (s1.trans s2) (.bl b)⟩
theorem ed_neD (ha : ED K ta δ x) (hb : ED K tb δ y) (sx : SeqAt.shaped x = true) (sy : SeqAt.shaped y = true) {b : Bool} (e : (!PyData.eqv x y) = b) : ED K (tOp (rNeD K) ta tb) δ (.bool b) := fun B0 H0 B H σ Q S q =>
  ha B0 H0 B H σ _ S fun v B1 H1 s1 a => hb B0 H0 B1 H1 σ _ (S.step s1) fun w B2 H2 s2 c =>
    ⟨x, y, Dq.dp _ _ (Dq.up (s2.bb.trans s2.bh) _ _ a) (PySem.SeqAt.canLay_of_shaped sx), Dq.dp _ _ (Dq.up s2.bh _ _ c) (PySem.SeqAt.canLay_of_shaped sy), sx, sy, by rw [e]; exact q _ B2 H2 (s1.trans s2) (.bl b)⟩
/-- the item of data at an int -/
def itemD (x : D) (i : Int) : Option D := match x with
  | .list ds => atI ds i
  | .tuple ds => atI ds i
  | _ => none
theorem atI_dp {H : Hp} {vs : List V} {i : Int} (h : DqAll K H vs ds) (e : atI ds i = some d) : ∃ v, atI vs i = some v ∧ Dq K H v d := by
  unfold atI at e ⊢
  rw [h.len]
  cases q : ixN ds.length i with
  | none => rw [q] at e; cases e
  | some j =>
    rw [q] at e
    exact h.get e
theorem ed_ix {i : Int} (ha : ED K ta δ x) (hb : ED K tb δ (.int i)) (e : itemD x i = some d) : ED K (tOp (rIx K) ta tb) δ d := fun B0 H0 B H σ Q S q =>
  ha B0 H0 B H σ _ S fun v B1 H1 s1 a => hb B0 H0 B1 H1 σ _ (S.step s1) fun w B2 H2 s2 c => by
    cases Dq.int_inv c
    cases a with
    | lst hs hA =>
      obtain ⟨v, e1, e2⟩ := atI_dp hA e
      exact .inl ⟨_, _, i, v, rfl, rfl, (s2.bb.trans s2.bh).seq hs, e1, q v B2 H2 (s1.trans s2) (Dq.up s2.bb _ _ e2)⟩
    | tup hs hA =>
      obtain ⟨v, e1, e2⟩ := atI_dp hA e
      exact .inr (.inl ⟨_, _, i, v, rfl, rfl, sqT_up (s2.bb.trans s2.bh) hs, e1, q v B2 H2 (s1.trans s2) (Dq.up s2.bb _ _ e2)⟩)
    | _ => cases e
/-- an owned list's item -/
theorem ed_ixOwn {k : Nat} {i : Int} (ha : δ[k]? = some (.own (.l ds))) (hb : ED K tb δ (.int i)) (e : atI ds i = some d) : ED K (tOp (rIx K) (tVar k) tb) δ d := fun B0 H0 B H σ Q S q => by
  obtain ⟨p, vs, a1, _⟩ := S.slotOwn ha
  refine ⟨_, a1, hb B0 H0 B H σ _ S fun w B2 H2 s2 c => ?_⟩
  cases Dq.int_inv c
  obtain ⟨p', vs', b1, b2, b3, b4, b5⟩ := (S.step s2).slotOwn ha
  rw [a1] at b1; cases b1
  obtain ⟨v, e1, e2⟩ := atI_dp b5 e
  exact .inl ⟨_, _, i, v, rfl, rfl, .inl (.inl b2), e1, q v B2 H2 s2 e2⟩
theorem sz_small {n : Nat} (h : n ≤ 100000) : n ≤ sizeLine := Nat.le_trans h (by decide)
theorem ea_nil : EA K tNil δ [] := fun B0 H0 B H σ Q S q => q [] B H (.refl S.hist.bh) .nil
theorem ea_cons {tr : TA} (ha : ED K ta δ d) (hr : EA K tr δ ds) : EA K (tCons ta tr) δ (d :: ds) := fun B0 H0 B H σ Q S q =>
  ha B0 H0 B H σ _ S fun v B1 H1 s1 a => hr B0 H0 B1 H1 σ _ (S.step s1) fun vs B2 H2 s2 b => q _ B2 H2 (s1.trans s2) (.cons (Dq.up s2.bb _ _ a) b)
theorem ed_tup {ta : TA} (h : EA K ta δ ds) (hl : ds.length ≤ sizeLine) : ED K (tTup ta) δ (.tuple ds) := fun B0 H0 B H σ Q S q =>
  h B0 H0 B H σ _ S fun vs B1 H1 s1 a => ⟨by rw [a.len]; exact hl, fun p hp =>
    q (.ref p) (upd B1 p (.tup vs)) _ (s1.trans (.new s1.bh hp)) (.tup (.inl (.inl upd_same)) (DqAll.up (same_new (s1.bh.free hp)) _ _ a))⟩
theorem en_lst {ta : TA} (h : EA K ta δ ds) (hl : ds.length ≤ sizeLine) : EN K (tLst ta) δ ds := fun B0 H0 B H σ Q S q =>
  h B0 H0 B H σ _ S fun vs B1 H1 s1 a => ⟨by rw [a.len]; exact hl, fun p hp =>
    q p vs B1 _ (s1.trans (.newOwn s1.bh hp)) (s1.hh.free hp) (s1.bh.free hp) upd_same a⟩
/-- the promise of a def over data -/
def spD (K : PySem.W.Frag) (R : List D → D → Prop) : Sp := fun vs H Q _ => ∃ B ds d, R ds d ∧ Same B H ∧ DqAll K B vs ds ∧ ∀ v B' H', Stp B H B' H' → Dq K B' v d → Q v H'
theorem ed_call {ta : TA} {R : List D → D → Prop} {E : XK} (h : EA K ta δ ds) (r : R ds d) : ED K (tCall (spD K R) [] E ta) δ d := fun B0 H0 B H σ Q S q =>
  h B0 H0 B H σ _ S fun vs B1 H1 s1 a => ⟨B1, ds, d, r, s1.bh, by rw [List.append_nil]; exact a, fun v B' H' s2 b => q v B' H' (s1.trans s2) b⟩
/-! ### tests -/
theorem et_test {b : Bool} (h : ED K te δ (.bool b)) : ET K (tTest te) δ b := fun B0 H0 B H σ Q S q =>
  h B0 H0 B H σ _ S fun v B1 H1 s1 a => by
    cases Dq.bool_inv a
    exact ⟨b, rfl, q B1 H1 s1⟩
theorem et_B {b : Bool} (h : ED K te δ (.bool b)) : ET K (tB te) δ b := fun B0 H0 B H σ Q S q =>
  h B0 H0 B H σ _ S fun v B1 H1 s1 a => by
    cases Dq.bool_inv a
    exact ⟨b, rfl, q B1 H1 s1⟩
theorem et_and {a b : Bool} (h1 : ET K t δ a) (h2 : a = true → ET K u δ b) : ET K (tAnd t u) δ (a && b) := fun B0 H0 B H σ Q S q => h1 B0 H0 B H σ _ S fun B1 H1 s1 => by
  cases a with
  | true => exact iteT (h2 rfl B0 H0 B1 H1 σ _ (S.step s1) fun B2 H2 s2 => q B2 H2 (s1.trans s2))
  | false => exact iteF (q B1 H1 s1)
theorem et_or {a b : Bool} (h1 : ET K t δ a) (h2 : a = false → ET K u δ b) : ET K (tOr t u) δ (a || b) := fun B0 H0 B H σ Q S q => h1 B0 H0 B H σ _ S fun B1 H1 s1 => by
  cases a with
  | false => exact iteF (h2 rfl B0 H0 B1 H1 σ _ (S.step s1) fun B2 H2 s2 => q B2 H2 (s1.trans s2))
  | true => exact iteT (q B1 H1 s1)
theorem et_not {a : Bool} (h1 : ET K t δ a) : ET K (tNot t) δ (!a) := fun B0 H0 B H σ Q S q => h1 B0 H0 B H σ _ S fun B1 H1 s1 => q B1 H1 s1
theorem ed_andV {a b : Bool} (h1 : ED K ta δ (.bool a)) (h2 : a = true → ED K tb δ (.bool b)) : ED K (tAndV ta tb) δ (.bool (a && b)) := fun B0 H0 B H σ Q S q => h1 B0 H0 B H σ _ S fun v B1 H1 s1 c => by
  cases Dq.bool_inv c
  refine ⟨a, rfl, ?_⟩
  cases a with
  | true => exact iteT (h2 rfl B0 H0 B1 H1 σ _ (S.step s1) fun w B2 H2 s2 => q w B2 H2 (s1.trans s2))
  | false => exact iteF (q _ B1 H1 s1 (.bl false))
theorem ed_orV {a b : Bool} (h1 : ED K ta δ (.bool a)) (h2 : a = false → ED K tb δ (.bool b)) : ED K (tOrV ta tb) δ (.bool (a || b)) := fun B0 H0 B H σ Q S q => h1 B0 H0 B H σ _ S fun v B1 H1 s1 c => by
  cases Dq.bool_inv c
  refine ⟨a, rfl, ?_⟩
  cases a with
  | false => exact iteF (h2 rfl B0 H0 B1 H1 σ _ (S.step s1) fun w B2 H2 s2 => q w B2 H2 (s1.trans s2))
  | true => exact iteT (q _ B1 H1 s1 (.bl true))
theorem ed_notV {a : Bool} (h1 : ED K ta δ (.bool a)) : ED K (tNotV ta) δ (.bool (!a)) := fun B0 H0 B H σ Q S q => h1 B0 H0 B H σ _ S fun v B1 H1 s1 c => by
  cases Dq.bool_inv c
  exact ⟨a, rfl, q _ B1 H1 s1 (.bl _)⟩
theorem ed_if {b : Bool} (h : ET K t δ b) (h1 : b = true → ED K ta δ d) (h2 : b = false → ED K tb δ d) : ED K (tIf t ta tb) δ d := fun B0 H0 B H σ Q S q => h B0 H0 B H σ _ S fun B1 H1 s1 => by
  cases b with
  | true => exact iteT (h1 rfl B0 H0 B1 H1 σ _ (S.step s1) fun w B2 H2 s2 => q w B2 H2 (s1.trans s2))
  | false => exact iteF (h2 rfl B0 H0 B1 H1 σ _ (S.step s1) fun w B2 H2 s2 => q w B2 H2 (s1.trans s2))
end
end DX

namespace DX
open PySem L2

/-! ### built-in calls, by name -/
def rAbsQ : List V → Hp → VK → Prop := fun xs H Q => ∃ i, xs = [.int i] ∧ Q (.int (if i < 0 then -i else i)) H
def rMax2Q : List V → Hp → VK → Prop := fun xs H Q => ∃ i j, xs = [.int i, .int j] ∧ Q (.int (if j > i then j else i)) H
def rMin2Q : List V → Hp → VK → Prop := fun xs H Q => ∃ i j, xs = [.int i, .int j] ∧ Q (.int (if j < i then j else i)) H
def rIntQ : List V → Hp → VK → Prop := fun xs H Q => (∃ i, xs = [.int i] ∧ Q (.int i) H) ∨ ∃ k, xs = [.bl k] ∧ Q (.int (if k then 1 else 0)) H
def rListQ (K : PySem.W.Frag) : List V → Hp → VK → Prop := fun xs H Q => ∃ p ys, xs = [.ref p] ∧ (SqL K H p ys ∨ SqT K H p ys) ∧ ∀ l, H l = none → Q (.ref l) (upd H l (.lst ys))
def rTupleQ (K : PySem.W.Frag) : List V → Hp → VK → Prop := fun xs H Q => ∃ p ys, xs = [.ref p] ∧ ((SqL K H p ys ∧ ∀ l, H l = none → Q (.ref l) (upd H l (.tup ys))) ∨ (SqT K H p ys ∧ Q (.ref p) H))
def rLenQ (K : PySem.W.Frag) : List V → Hp → VK → Prop := fun xs H Q => ∃ p ys, xs = [.ref p] ∧ (SqL K H p ys ∨ SqT K H p ys) ∧ Q (.int ys.length) H
section
variable {X : Cx}
theorem cr_lenQ : CallR X (.builtin "len") (rLenQ X.K) := call_len_seq
theorem cr_absQ : CallR X (.builtin "abs") rAbsQ := call_abs
theorem cr_max2 (hc : X.calm = true) : CallR X (.builtin "max") rMax2Q := call_max2 hc
theorem cr_min2 (hc : X.calm = true) : CallR X (.builtin "min") rMin2Q := call_min2 hc
theorem cr_intQ : CallR X (.type "int") rIntQ := call_int1
theorem cr_listQ : CallR X (.type "list") (rListQ X.K) := call_list_of
theorem cr_tupleQ : CallR X (.type "tuple") (rTupleQ X.K) := call_tuple_of
end
def CMulX (i j : Int) : Prop := CMul i j ∨ CMulW i j
section
variable {X : Cx}
theorem op_mulX : OpR X (binaryOp .Mult) (rI CMulX fun i j => .int (i * j)) := opI fun _ _ _ _ _ _ _ hc q => PyProof.Rows.mul_int q (hc.elim (·.ok) (·.ok))
end
/-! ### operators of any size -/
def CDivX (_ j : Int) : Prop := j ≠ 0 ∧ j.natAbs.log2 < 9000
section
variable {X : Cx}
theorem op_fdivX : OpR X (binaryOp .FloorDiv) (rI CDivX fun i j => .int (i.fdiv j)) := opI fun i j _ _ _ _ _ hc q =>
  PyProof.Rows.floordiv_int hc.1 q (.inl (PyProof.noPylong_of_log2 hc.2))
end

section
variable {K : PySem.W.Frag} {δ : List SV} {ta tb te : TE} {t u : TT} {d x y : D} {ds es : List D}
/-! ### built-in calls -/
theorem ed_cb {r : List V → Hp → VK → Prop} {ta : TA} (h : EA K ta δ ds) (hr : ∀ B H vs (Q : VK), Same B H → DqAll K B vs ds → (∀ v B' H', Stp B H B' H' → Dq K B' v d → Q v H') → r vs H Q) : ED K (tCB r ta) δ d := fun B0 H0 B H σ Q S q =>
  h B0 H0 B H σ _ S fun vs B1 H1 s1 a => hr B1 H1 vs Q s1.bh a fun v B' H' s2 b => q v B' H' (s1.trans s2) b
theorem en_cb {r : List V → Hp → VK → Prop} {ta : TA} (h : EA K ta δ ds) (hr : ∀ B H vs (Q : VK), Same B H → DqAll K B vs ds → (∀ p ws, H p = none → DqAll K B ws es → Q (.ref p) (upd H p (.lst ws))) → r vs H Q) : EN K (tCB r ta) δ es := fun B0 H0 B H σ Q S q =>
  h B0 H0 B H σ _ S fun vs B1 H1 s1 a => hr B1 H1 vs Q s1.bh a fun p ws np b => q p ws B1 _ (s1.trans (.newOwn s1.bh np)) (s1.hh.free np) (s1.bh.free np) upd_same b
theorem _root_.L2.DqAll.one {B : Hp} {vs : List V} (h : DqAll K B vs [d]) : ∃ v, vs = [v] ∧ Dq K B v d := by
  cases h with
  | cons h1 h2 => cases h2; exact ⟨_, rfl, h1⟩
theorem _root_.L2.DqAll.two {B : Hp} {vs : List V} (h : DqAll K B vs [x, y]) : ∃ v w, vs = [v, w] ∧ Dq K B v x ∧ Dq K B w y := by
  cases h with
  | cons h1 h2 => cases h2 with
    | cons h2 h3 => cases h3; exact ⟨_, _, rfl, h1, h2⟩
/-- len of list or tuple data -/
def lenD : D → Option Nat
  | .list ds => some ds.length
  | .tuple ds => some ds.length
  | _ => none
def rLenQ0 (K : PySem.W.Frag) : List V → Hp → VK → Prop := fun xs H Q => ∃ p ys, xs = [.ref p] ∧ (SqL K H p ys ∨ SqT K H p ys) ∧ Q (.int ys.length) H
theorem ed_len {n : Nat} (h : ED K te δ x) (e : lenD x = some n) : ED K (tCB (rLenQ K) (tCons te tNil)) δ (.int n) :=
  ed_cb (ea_cons h ea_nil) fun B H vs Q bh a q => by
    obtain ⟨v, rfl, b⟩ := a.one
    cases b with
    | lst hs hA =>
      cases e
      exact ⟨_, _, rfl, .inl (bh.seq hs), q _ B H (.refl bh) (by rw [hA.len]; exact .int _)⟩
    | tup hs hA =>
      cases e
      exact ⟨_, _, rfl, .inr (sqT_up bh hs), q _ B H (.refl bh) (by rw [hA.len]; exact .int _)⟩
    | _ => cases e
theorem ed_lenOwn {k : Nat} (e : δ[k]? = some (.own (.l ds))) : ED K (tCB (rLenQ K) (tCons (tVar k) tNil)) δ (.int ds.length) := fun B0 H0 B H σ Q S q => by
  obtain ⟨p, vs, a, b, c, c', d⟩ := S.slotOwn e
  exact ⟨_, a, p, vs, rfl, .inl (.inl (.inl b)), q _ B H (.refl S.hist.bh) (by rw [d.len]; exact .int _)⟩
theorem ed_abs {i : Int} (h : ED K te δ (.int i)) : ED K (tCB rAbsQ (tCons te tNil)) δ (.int i.natAbs) :=
  ed_cb (ea_cons h ea_nil) fun B H vs Q bh a q => by
    obtain ⟨v, rfl, b⟩ := a.one
    cases Dq.int_inv b
    refine ⟨i, rfl, q _ B H (.refl bh) ?_⟩
    have e : (if i < 0 then -i else i) = (i.natAbs : Int) := by split <;> omega
    rw [e]; exact .int _
theorem ed_max2 {i j : Int} (h : ED K ta δ (.int i)) (h' : ED K tb δ (.int j)) : ED K (tCB rMax2Q (tCons ta (tCons tb tNil))) δ (.int (max i j)) :=
  ed_cb (ea_cons h (ea_cons h' ea_nil)) fun B H vs Q bh a q => by
    obtain ⟨v, w, rfl, b, c⟩ := a.two
    cases Dq.int_inv b; cases Dq.int_inv c
    refine ⟨i, j, rfl, q _ B H (.refl bh) ?_⟩
    have e : (if j > i then j else i) = max i j := by split <;> omega
    rw [e]; exact .int _
theorem ed_min2 {i j : Int} (h : ED K ta δ (.int i)) (h' : ED K tb δ (.int j)) : ED K (tCB rMin2Q (tCons ta (tCons tb tNil))) δ (.int (min i j)) :=
  ed_cb (ea_cons h (ea_cons h' ea_nil)) fun B H vs Q bh a q => by
    obtain ⟨v, w, rfl, b, c⟩ := a.two
    cases Dq.int_inv b; cases Dq.int_inv c
    refine ⟨i, j, rfl, q _ B H (.refl bh) ?_⟩
    have e : (if j < i then j else i) = min i j := by split <;> omega
    rw [e]; exact .int _
/-- int(n), int(flag) -/
def intD : D → Option Int
  | .int i => some i
  | .bool b => some (if b then 1 else 0)
  | _ => none
theorem ed_int1 {i : Int} (h : ED K te δ x) (e : intD x = some i) : ED K (tCB rIntQ (tCons te tNil)) δ (.int i) :=
  ed_cb (ea_cons h ea_nil) fun B H vs Q bh a q => by
    obtain ⟨v, rfl, b⟩ := a.one
    cases b with
    | int j => cases e; exact .inl ⟨_, rfl, q _ B H (.refl bh) (.int _)⟩
    | bl c => cases e; exact .inr ⟨_, rfl, q _ B H (.refl bh) (.int _)⟩
    | _ => cases e
theorem ed_gcd {i j : Int} (h : ED K ta δ (.int i)) (h' : ED K tb δ (.int j)) : ED K (tCB rGcd (tCons ta (tCons tb tNil))) δ (.int (Nat.gcd i.natAbs j.natAbs : Nat)) :=
  ed_cb (ea_cons h (ea_cons h' ea_nil)) fun B H vs Q bh a q => by
    obtain ⟨v, w, rfl, b, c⟩ := a.two
    cases Dq.int_inv b; cases Dq.int_inv c
    exact ⟨i, j, rfl, q _ B H (.refl bh) (.int _)⟩
end
/-- math.lcm of two ints -/
def rLcm : List V → Hp → VK → Prop := fun vs H Q => ∃ a b : Int, vs = [.int a, .int b] ∧ (a.natAbs < 2 ^ 13000 ∧ b.natAbs < 2 ^ 13000) ∧ Q (.int ((Nat.lcm a.natAbs b.natAbs : Nat) : Int)) H
theorem lcm_le (a b : Nat) : Nat.lcm a b ≤ a * b := by
  unfold Nat.lcm
  exact Nat.div_le_self _ _
theorem lt_of_log {n k : Nat} (h : n < 2 ^ k) (h0 : 0 < k) : n.log2 < k := PySem.Flt.log2_lt_of h0 (by simpa using h)
theorem cr_lcm {X : Cx} : CallR X (.builtin "math.lcm") rLcm := by
  intro pins s σ H vs us Q I r h
  obtain ⟨a, b, rfl, ⟨ha, hb⟩, q⟩ := h
  obtain ⟨t, u, rfl⟩ := Vals.int2 r
  have e1 : (Nat.lcm 1 a.natAbs).lcm b.natAbs = Nat.lcm a.natAbs b.natAbs := by rw [Nat.lcm_one_left]
  have h1 : (max 1 a.natAbs).log2 < 13000 := lt_of_log (by have := Nat.one_lt_two_pow (n := 13000) (by decide); omega) (by decide)
  have h2 : (max a.natAbs b.natAbs).log2 < 13000 := lt_of_log (by omega) (by decide)
  have h3 : (((Nat.lcm 1 a.natAbs).lcm b.natAbs : Nat) : Int).natAbs < 2 ^ 26000 := by
    rw [e1]
    show Nat.lcm a.natAbs b.natAbs < 2 ^ 26000
    refine Nat.lt_of_le_of_lt (lcm_le _ _) ?_
    rw [show (26000 : Nat) = 13000 + 13000 from rfl, Nat.pow_add]
    exact Nat.mul_lt_mul'' ha hb
  have h4 : (((Nat.lcm 1 a.natAbs).lcm b.natAbs : Nat) : Int).natAbs.log2 < bitsLine := Nat.lt_of_lt_of_le (lt_of_log h3 (by decide)) (by decide)
  refine PySem.call_function_meets PySem.W.MGF.kind_lcm PySem.W.MGF.plain_lcm PySem.W.MGF.entry_lcm (PySem.W.MGF.args_lcm _ _) (PySem.W.mg_run_lcm a t b u (by omega) (by omega) h4).meets ?_
  rw [e1]
  exact ⟨.int _, H, I.tok _, ⟨_, rfl⟩, q⟩
section
variable {K : PySem.W.Frag} {δ : List SV} {ta tb te : TE} {t u : TT} {d x y : D} {ds es : List D}
theorem ed_lcm {i j : Int} (h : ED K ta δ (.int i)) (h' : ED K tb δ (.int j)) (hi : i.natAbs < 2 ^ 13000) (hj : j.natAbs < 2 ^ 13000) : ED K (tCB rLcm (tCons ta (tCons tb tNil))) δ (.int (Nat.lcm i.natAbs j.natAbs : Nat)) :=
  ed_cb (ea_cons h (ea_cons h' ea_nil)) fun B H vs Q bh a q => by
    obtain ⟨v, w, rfl, b, c⟩ := a.two
    cases Dq.int_inv b; cases Dq.int_inv c
    exact ⟨i, j, rfl, ⟨hi, hj⟩, q _ B H (.refl bh) (.int _)⟩
/-- the items of list or tuple data -/
def itemsD : D → Option (List D)
  | .list ds => some ds
  | .tuple ds => some ds
  | _ => none
theorem en_list (h : ED K te δ x) (e : itemsD x = some ds) : EN K (tCB (rListQ K) (tCons te tNil)) δ ds :=
  en_cb (ea_cons h ea_nil) fun B H vs Q bh a q => by
    obtain ⟨v, rfl, b⟩ := a.one
    cases b with
    | lst hs hA => cases e; exact ⟨_, _, rfl, .inl (bh.seq hs), fun l hl => q l _ hl hA⟩
    | tup hs hA => cases e; exact ⟨_, _, rfl, .inr (sqT_up bh hs), fun l hl => q l _ hl hA⟩
    | _ => cases e
theorem en_listOwn {k : Nat} (e : δ[k]? = some (.own (.l ds))) : EN K (tCB (rListQ K) (tCons (tVar k) tNil)) δ ds := fun B0 H0 B H σ Q S q => by
  obtain ⟨p, vs, a, b, c, c', d⟩ := S.slotOwn e
  exact ⟨_, a, p, vs, rfl, .inl (.inl (.inl b)), fun l hl => q l _ B _ (.newOwn S.hist.bh hl) hl (S.hist.bh.free hl) upd_same d⟩
/-- tuple(x) -/
theorem ed_tupleOf (h : ED K te δ x) (e : itemsD x = some ds) : ED K (tCB (rTupleQ K) (tCons te tNil)) δ (.tuple ds) :=
  ed_cb (ea_cons h ea_nil) fun B H vs Q bh a q => by
    obtain ⟨v, rfl, b⟩ := a.one
    cases b with
    | lst hs hA =>
      cases e
      exact ⟨_, _, rfl, .inl ⟨bh.seq hs, fun l hl => q _ (upd B l _) _ (.new bh hl) (.tup (.inl (.inl upd_same)) (DqAll.up (same_new (bh.free hl)) _ _ hA))⟩⟩
    | tup hs hA => cases e; exact ⟨_, _, rfl, .inr ⟨sqT_up bh hs, q _ B H (.refl bh) (.tup hs hA)⟩⟩
    | _ => cases e
/-- sum of ints, all and any of bools -/
theorem ed_sum {ns : List Int} (h : ED K te δ (.list (ns.map PyData.int))) : ED K (tCB (rSum K) (tCons te tNil)) δ (.int ns.sum) :=
  ed_cb (ea_cons h ea_nil) fun B H vs Q bh a q => by
    obtain ⟨v, rfl, b⟩ := a.one
    cases b with
    | lst hs hA => cases hA.ints; exact ⟨_, ns, rfl, bh.seq hs, q _ B H (.refl bh) (.int _)⟩
theorem ed_all {bs : List Bool} (h : ED K te δ (.list (bs.map PyData.bool))) : ED K (tCB (rAll K) (tCons te tNil)) δ (.bool (bs.all id)) :=
  ed_cb (ea_cons h ea_nil) fun B H vs Q bh a q => by
    obtain ⟨v, rfl, b⟩ := a.one
    cases b with
    | lst hs hA => cases hA.bools; exact ⟨_, bs, rfl, bh.seq hs, q _ B H (.refl bh) (.bl _)⟩
theorem ed_any {bs : List Bool} (h : ED K te δ (.list (bs.map PyData.bool))) : ED K (tCB (rAny K) (tCons te tNil)) δ (.bool (bs.any id)) :=
  ed_cb (ea_cons h ea_nil) fun B H vs Q bh a q => by
    obtain ⟨v, rfl, b⟩ := a.one
    cases b with
    | lst hs hA => cases hA.bools; exact ⟨_, bs, rfl, bh.seq hs, q _ B H (.refl bh) (.bl _)⟩
/-- isinstance of data, a built-in class -/
def tyName : D → String
  | .none => "NoneType"
  | .bool _ => "bool"
  | .int _ => "int"
  | .str _ => "str"
  | .list _ => "list"
  | .tuple _ => "tuple"
  | .dict _ => "dict"
theorem tyx_of {B H : Hp} {v : V} (bh : Same B H) (h : Dq K B v d) : TyX K H v (.type (tyName d)) := by
  cases h with
  | non => exact .base .non
  | bl b => exact .base (.bl b)
  | int i => exact .base (.int i)
  | str x => exact .base (.str x)
  | lst hs _ =>
    rcases hs with (h | ⟨o, h⟩) | ⟨o, its, n, h1, h2, _⟩
    · exact .base (.lst (bh _ _ h))
    · exact .base (.frz (bh _ _ h))
    · exact .kList h1 h2
  | tup hs _ =>
    rcases hs with (h | ⟨o, h⟩) | ⟨o, its, n, h1, h2, _⟩
    · exact .base (.tup (bh _ _ h))
    · exact .fTuple (bh _ _ h)
    · exact .kTuple h1 h2
  | dct hs _ =>
    rcases hs with h | ⟨o, h⟩
    · exact .base (.dK (bh _ _ h))
    · exact .fDict (bh _ _ h)
theorem ed_isi {n : String} {b : Bool} (h : ED K te δ d) (e : kitB (tyName d) n = some b) : ED K (tCB (rIsi K) (tCons te (tCons (tC (.ty n)) tNil))) δ (.bool b) := fun B0 H0 B H σ Q S q =>
  h B0 H0 B H σ _ S fun v B1 H1 s1 a => ⟨v, .ty n, _, _, b, rfl, .ty n, tyx_of s1.bh a, kit_ty e, q _ B1 H1 s1 (.bl b)⟩
/-! ### new lists -/
theorem en_cat (ha : EN K ta δ ds) (hb : EN K tb δ es) (hl : ds.length + es.length ≤ sizeLine) : EN K (tOp rCat ta tb) δ (ds ++ es) := fun B0 H0 B H σ Q S q =>
  ha B0 H0 B H σ _ S fun p vs B1 H1 s1 n1 b1 e1 a1 => hb B0 H0 B1 H1 σ _ (S.step s1) fun p2 ws B2 H2 s2 n2 b2 e2 a2 =>
    ⟨p, p2, vs, ws, rfl, rfl, s2.hh _ _ e1, e2, by rw [a1.len, a2.len]; exact hl, fun l hl => q l _ B2 _ ((s1.trans s2).trans (.newOwn s2.bh hl)) ((s1.trans s2).hh.free hl) (s2.bh.free hl) upd_same ((DqAll.up s2.bb _ _ a1).app a2)⟩
theorem dqall_rep {B : Hp} {vs : List V} (h : DqAll K B vs ds) : ∀ n : Nat, DqAll K B (List.replicate n vs).flatten (List.replicate n ds).flatten
  | 0 => .nil
  | n + 1 => by
    rw [List.replicate_succ, List.replicate_succ, List.flatten_cons, List.flatten_cons]
    exact h.app (dqall_rep h n)
theorem en_rep {k : Int} (ha : EN K ta δ ds) (hb : ED K tb δ (.int k)) (h1 : -(2 ^ 63) ≤ k ∧ k < 2 ^ 63) (hl : ds.length * k.toNat ≤ sizeLine) : EN K (tOp rRep ta tb) δ (List.replicate k.toNat ds).flatten := fun B0 H0 B H σ Q S q =>
  ha B0 H0 B H σ _ S fun p vs B1 H1 s1 n1 b1 e1 a1 => hb B0 H0 B1 H1 σ _ (S.step s1) fun w B2 H2 s2 c => by
    cases Dq.int_inv c
    exact ⟨p, k, vs, rfl, rfl, s2.hh _ _ e1, h1.1, h1.2, by rw [a1.len]; exact hl, fun l hl => q l _ B2 _ ((s1.trans s2).trans (.newOwn s2.bh hl)) ((s1.trans s2).hh.free hl) (s2.bh.free hl) upd_same (dqall_rep (DqAll.up s2.bb _ _ a1) _)⟩
theorem dqall_rev {B : Hp} : ∀ {ds : List D} {vs : List V}, DqAll K B vs ds → DqAll K B vs.reverse ds.reverse
  | [], _, h => by cases h; exact .nil
  | d :: ds, _, h => by
    cases h with
    | cons h1 h2 =>
      rw [List.reverse_cons, List.reverse_cons]
      exact (dqall_rev h2).app (.cons h1 .nil)
/-- xs[a:b] of a list -/
def cutD (ds : List D) (lo hi : Option Int) : List D := (ds.drop (HT.sIx ds.length 0 lo)).take (HT.sIx ds.length ds.length hi - HT.sIx ds.length 0 lo)
theorem eo_none : EO K tNoPart δ none := fun B0 H0 B H σ Q S q => q B H (.refl S.hist.bh)
theorem eo_some {i : Int} (h : ED K te δ (.int i)) : EO K (tPart te) δ (some i) := fun B0 H0 B H σ Q S q => h B0 H0 B H σ _ S fun v B1 H1 s1 a => by
  cases Dq.int_inv a
  exact ⟨i, rfl, q B1 H1 s1⟩
theorem en_slice {tl th : TO} {lo hi : Option Int} (h : ED K te δ (.list ds)) (h1 : EO K tl δ lo) (h2 : EO K th δ hi) : EN K (tSl (rSlL K) te tl th) δ (cutD ds lo hi) := fun B0 H0 B H σ Q S q =>
  h B0 H0 B H σ _ S fun v B1 H1 s1 a => h1 B0 H0 B1 H1 σ _ (S.step s1) fun B2 H2 s2 => h2 B0 H0 B2 H2 σ _ ((S.step s1).step s2) fun B3 H3 s3 => by
    cases a with
    | lst hs hA =>
      have st := (s1.trans s2).trans s3
      refine ⟨_, _, rfl, ((s2.trans s3).bb.trans s3.bh).seq hs, fun p hp => q p _ B3 _ (st.trans (.newOwn s3.bh hp)) (st.hh.free hp) (s3.bh.free hp) upd_same ?_⟩
      unfold cutV cutD
      rw [hA.len]
      exact (DqAll.up (s2.trans s3).bb _ _ hA).drop _ |>.take _

/-! ### what is walked -/
/-- from B1 on the walk yields ds -/
def YD (K : PySem.W.Frag) (J : It) (B1 : Hp) (ds : List D) : Prop := ∀ (B H : Hp) (i : Nat), Same B1 B → Same B H →
  (i < ds.length → J.go i H ∧ ∀ x H', J.yld i H x H' → ∃ B' d, Stp B H B' H' ∧ ds[i]? = some d ∧ Dq K B' x d) ∧ (i = ds.length → J.stop i H)
def EI (K : PySem.W.Frag) (wi : TI) (δ : List SV) (ds : List D) : Prop := ∀ (B0 H0 B H : Hp) (σ : L2.St) (R : It → Hp → Prop), Sd K B0 H0 B H σ δ → (∀ J B1 H1, Stp B H B1 H1 → YD K J B1 ds → R J H1) → wi σ H R
theorem ei_list (h : ED K te δ (.list ds)) : EI K (iList K te) δ ds := fun B0 H0 B H σ R S q => h B0 H0 B H σ _ S fun v B1 H1 s1 a => by
  cases a with
  | lst hs hA =>
    refine ⟨_, rfl, ⟨_, s1.bh.seq hs⟩, q _ B1 H1 s1 fun B H i e1 e2 => ⟨fun hi => ?_, fun hi => ?_⟩⟩
    · obtain ⟨v, g1, g2⟩ := hA.get (List.getElem?_eq_getElem hi)
      refine ⟨⟨_, v, (e1.trans e2).seq hs, g1⟩, fun x H' y => ?_⟩
      obtain ⟨rfl, y⟩ := y
      have ex := (y _ ((e1.trans e2).seq hs)).symm.trans g1
      cases ex
      exact ⟨B, _, .refl e2, List.getElem?_eq_getElem hi, Dq.up e1 _ _ g2⟩
    · exact ⟨_, (e1.trans e2).seq hs, by rw [hA.len, hi]; exact Nat.le_refl _⟩
theorem ei_tup (h : ED K te δ (.tuple ds)) : EI K (iTup K te) δ ds := fun B0 H0 B H σ R S q => h B0 H0 B H σ _ S fun v B1 H1 s1 a => by
  cases a with
  | tup hs hA =>
    refine ⟨_, rfl, ⟨_, sqT_up s1.bh hs⟩, q _ B1 H1 s1 fun B H i e1 e2 => ⟨fun hi => ?_, fun hi => ?_⟩⟩
    · obtain ⟨v, g1, g2⟩ := hA.get (List.getElem?_eq_getElem hi)
      refine ⟨⟨_, v, sqT_up (e1.trans e2) hs, g1⟩, fun x H' y => ?_⟩
      obtain ⟨rfl, y⟩ := y
      have ex := (y _ (sqT_up (e1.trans e2) hs)).symm.trans g1
      cases ex
      exact ⟨B, _, .refl e2, List.getElem?_eq_getElem hi, Dq.up e1 _ _ g2⟩
    · exact ⟨_, sqT_up (e1.trans e2) hs, by rw [hA.len, hi]; exact Nat.le_refl _⟩
/-- 0, 1, .. below n -/
def rngD (lo : Int) (n : Nat) : List D := (List.range n).map fun k => PyData.int (lo + (k : Nat))
theorem yd_rng {lo : Int} {n : Nat} {B1 : Hp} : YD K (Itr lo n) B1 (rngD lo n) := fun B H i e1 e2 => by
  have hl : (rngD lo n).length = n := by unfold rngD; simp
  refine ⟨fun hi => ⟨by rw [hl] at hi; exact hi, fun x H' y => ?_⟩, fun hi => by rw [hl] at hi; show n ≤ i; omega⟩
  obtain ⟨rfl, rfl⟩ := y
  rw [hl] at hi
  refine ⟨B, .int (lo + i), .refl e2, ?_, .int _⟩
  unfold rngD
  simp [hi]
theorem ei_rng1 {n : Int} (h : ED K te δ (.int n)) (hn : -(2 ^ 62) ≤ n ∧ n < 2 ^ 62) : EI K (iRng1 (tCons te tNil)) δ (rngD 0 n.toNat) := fun B0 H0 B H σ R S q => h B0 H0 B H σ _ S fun v B1 H1 s1 a => by
  cases Dq.int_inv a
  exact ⟨n, rfl, hn.1, hn.2, q _ B1 H1 s1 yd_rng⟩
theorem ei_rng2 {m n : Int} (h : ED K ta δ (.int m)) (h' : ED K tb δ (.int n)) (hn : -(2 ^ 62) ≤ m ∧ m < 2 ^ 62 ∧ -(2 ^ 62) ≤ n ∧ n < 2 ^ 62) : EI K (iRng2 (tCons ta (tCons tb tNil))) δ (rngD m (n - m).toNat) := fun B0 H0 B H σ R S q =>
  h B0 H0 B H σ _ S fun v B1 H1 s1 a => h' B0 H0 B1 H1 σ _ (S.step s1) fun w B2 H2 s2 b => by
  cases Dq.int_inv a; cases Dq.int_inv b
  exact ⟨m, n, rfl, hn, q _ B2 H2 (s1.trans s2) yd_rng⟩

/-! ### comprehensions -/
theorem wipe_gName {σ : L2.St} {i : Nat} {x : Option V} : wipe ((wipe σ [i]).set i x) [i] = wipe σ [i] := by
  show (((σ.set i none).set i x).set i none) = σ.set i none
  rw [List.set_set, List.set_set]
theorem map_take_succ {α β : Type} {f : α → β} {p : α → Bool} {xs : List α} {i : Nat} {x : α} (h : xs[i]? = some x) : ((xs.take (i + 1)).filter p).map f = ((xs.take i).filter p).map f ++ (if p x then [f x] else []) := by
  rw [List.take_add_one, h, List.filter_append, List.map_append]
  cases e : p x <;> simp [e]
theorem en_lcG {α : Type} {xs : List α} {g : α → D} {wi : TI} {tt : TT} {i : Nat} {p : α → Bool} {f : α → D} (hw : EI K wi δ (xs.map g)) (hl : xs.length ≤ sizeLine)
    (ht : ∀ x, x ∈ xs → ET K tt ((δ.set i .no).set i (.val (g x))) (p x)) (he : ∀ x, x ∈ xs → p x = true → ED K te ((δ.set i .no).set i (.val (g x))) (f x)) : EN K (tLc wi (gName i) tt te [i]) δ ((xs.filter p).map f) := fun B0 H0 B H σ Q S q =>
  hw B0 H0 B H σ _ S fun J B1 H1 s1 yd L nL => by
    have S1 := S.step s1
    refine ⟨fun k m H' => m = xs.length - k ∧ k ≤ xs.length ∧ ∃ B' acc, Sd K B1 H0 B' H' σ δ ∧ B' L = none ∧ H' L = some (.lst acc) ∧ DqAll K B' acc (((xs.take k).filter p).map f) ∧ Stp B1 H1 B' H', ⟨_, rfl, Nat.zero_le _, B1, [], ?_, s1.bh.free nL, upd_same, ?_, .newOwn s1.bh nL⟩, ?_⟩
    · exact (S1.past S1.hist.bb (Same.refl _)).step (.newOwn s1.bh nL)
    · rw [List.take_zero]; exact .nil
    rintro k m H' ⟨rfl, hk, B', acc, S', bL, hL, hA, sp⟩
    obtain ⟨y1, y2⟩ := yd B' H' k S'.hist.bb S'.hist.bh
    by_cases hlt : k < xs.length
    · obtain ⟨go, yy⟩ := y1 (by rw [List.length_map]; exact hlt)
      refine .inr ⟨go, fun H'' => ∃ B'' acc, Sd K B1 H0 B'' H'' σ δ ∧ B'' L = none ∧ H'' L = some (.lst acc) ∧ DqAll K B'' acc (((xs.take (k + 1)).filter p).map f) ∧ Stp B1 H1 B'' H'', fun H'' z => ⟨xs.length - (k + 1), by omega, rfl, hlt, z⟩, fun x H2 yl => ?_⟩
      obtain ⟨B2, d', s2, ed', dp⟩ := yy x H2 yl
      have ed : xs[k]? = some xs[k] := List.getElem?_eq_getElem hlt
      have eg : d' = g xs[k] := by
        rw [List.getElem?_map, ed] at ed'
        exact (Option.some.inj ed').symm
      subst eg
      have hm : xs[k] ∈ xs := List.getElem_mem hlt
      have hLne : H' L ≠ none := by rw [hL]; exact fun z => nomatch z
      have S2 := S'.step s2
      have S3 : Sd K B1 H0 B2 H2 ((wipe σ [i]).set i (some x)) ((δ.set i .no).set i (.val (g xs[k]))) := (S2.forget (i := i) (o := none)).setVal dp
      refine ⟨wipe_gName, ht xs[k] hm B1 H0 B2 H2 _ _ S3 fun B3 H3 s3 => ?_⟩
      cases e : p xs[k] with
      | true =>
        refine iteT (he xs[k] hm e B1 H0 B3 H3 _ _ (S3.step s3) fun v B4 H4 s4 dv => ?_)
        have st := (s2.trans s3).trans s4
        have hL4 : H4 L = some (.lst acc) := st.hh _ _ hL
        have bL4 : B4 L = none := st.fr L hLne bL
        have hA4 := DqAll.up st.bb _ _ hA
        refine ⟨acc, hL4, ?_, B4, acc ++ [v], ?_, bL4, upd_same, ?_, ?_⟩
        · have h1 := hA.len
          have h2 : (((xs.take k).filter p).map f).length ≤ k := by
            rw [List.length_map]
            exact Nat.le_trans (List.length_filter_le _ _) (by rw [List.length_take]; omega)
          omega
        · have S4 := (S'.step st)
          refine ⟨⟨S4.hist.bb, fun a o ea => ?_, fun a o ea => ?_, S4.hist.fr⟩, S4.len, fun j z ej => ?_, S4.apart⟩
          · have : a ≠ L := fun z => by subst z; rw [bL4] at ea; cases ea
            rw [upd_ne this]; exact S4.hist.bh _ _ ea
          · have : a ≠ L := fun z => by
              subst z
              have := S1.hist.hh _ _ ea
              rw [nL] at this; cases this
            rw [upd_ne this]; exact S4.hist.hh _ _ ea
          · obtain ⟨o, eo, ok⟩ := S4.ok j z ej
            refine ⟨o, eo, ?_⟩
            cases z with
            | no => exact True.intro
            | val d => exact ok
            | own es =>
              obtain ⟨pp, vs, e1, e2, e3, e4, e5⟩ := ok
              have hne : pp ≠ L := fun z => by
                subst z
                obtain ⟨o', eo', ok'⟩ := S1.ok j _ ej
                obtain ⟨pp', vs', f1, f2, _⟩ := ok'
                rw [eo] at eo'; cases eo'
                rw [e1] at f1; cases f1
                rw [nL] at f2; cases f2
              exact ⟨pp, vs, e1, by rw [upd_ne hne]; exact e2, e3, e4, e5⟩
        · rw [map_take_succ ed, if_pos e]
          exact hA4.app (.cons dv .nil)
        · have sq := sp.trans st
          refine ⟨sq.bb, fun a o ea => ?_, fun a o ea => ?_, sq.fr⟩
          · have : a ≠ L := fun z => by subst z; rw [bL4] at ea; cases ea
            rw [upd_ne this]; exact sq.bh _ _ ea
          · have : a ≠ L := fun z => by subst z; rw [nL] at ea; cases ea
            rw [upd_ne this]; exact sq.hh _ _ ea
      | false =>
        refine iteF ⟨B3, acc, S'.step (s2.trans s3), (s2.trans s3).fr L hLne bL, (s2.trans s3).hh _ _ hL, ?_, sp.trans (s2.trans s3)⟩
        rw [map_take_succ ed, e, if_neg Bool.false_ne_true, List.append_nil]
        exact DqAll.up (s2.trans s3).bb _ _ hA
    · have e : k = xs.length := by omega
      subst e
      rw [List.take_length] at hA
      exact .inl ⟨y2 (by rw [List.length_map]), q L acc B' H' (s1.trans sp) (s1.hh.free nL) bL hL hA⟩
theorem et_yes {δ : List SV} : ET K tYes δ true := fun B0 H0 B H σ Q S q => q B H (.refl S.hist.bh)
theorem en_lc1 {α : Type} {xs : List α} {g : α → D} {wi : TI} {i : Nat} {f : α → D} (hw : EI K wi δ (xs.map g)) (hl : xs.length ≤ sizeLine)
    (he : ∀ x, x ∈ xs → ED K te ((δ.set i .no).set i (.val (g x))) (f x)) : EN K (tLc wi (gName i) tYes te [i]) δ (xs.map f) := by
  have := en_lcG (p := fun _ => true) (f := f) hw hl (fun _ _ => et_yes) fun d hd _ => he d hd
  rwa [List.filter_eq_self.mpr (fun _ _ => rfl)] at this
theorem ED.of {d' : D} (h : ED K te δ d) (e : d = d') : ED K te δ d' := e ▸ h
theorem EN.of (h : EN K te δ ds) (e : ds = es) : EN K te δ es := e ▸ h
theorem ET.of {b b' : Bool} (h : ET K t δ b) (e : b = b') : ET K t δ b' := e ▸ h
theorem EI.of {wi : TI} (h : EI K wi δ ds) (e : ds = es) : EI K wi δ es := e ▸ h
/-- x is b, x is not b: bools -/
theorem ed_isB {a b : Bool} (h : ED K ta δ (.bool a)) (h' : ED K tb δ (.bool b)) : ED K (tOp rIsB ta tb) δ (.bool (decide (a = b))) := fun B0 H0 B H σ Q S q =>
  h B0 H0 B H σ _ S fun v B1 H1 s1 c => h' B0 H0 B1 H1 σ _ (S.step s1) fun w B2 H2 s2 d => by
    cases Dq.bool_inv c; cases Dq.bool_inv d
    exact ⟨a, b, rfl, rfl, q _ B2 H2 (s1.trans s2) (.bl _)⟩
theorem ed_notB {a b : Bool} (h : ED K ta δ (.bool a)) (h' : ED K tb δ (.bool b)) : ED K (tOp rNotB ta tb) δ (.bool (!decide (a = b))) := fun B0 H0 B H σ Q S q =>
  h B0 H0 B H σ _ S fun v B1 H1 s1 c => h' B0 H0 B1 H1 σ _ (S.step s1) fun w B2 H2 s2 d => by
    cases Dq.bool_inv c; cases Dq.bool_inv d
    exact ⟨a, b, rfl, rfl, q _ B2 H2 (s1.trans s2) (.bl _)⟩
/-- xs[::-1] -/
theorem en_rev (h : ED K te δ (.list ds)) : EN K (tRevL K te) δ ds.reverse := fun B0 H0 B H σ Q S q => h B0 H0 B H σ _ S fun v B1 H1 s1 a => by
  cases a with
  | lst hs hA => exact ⟨_, _, rfl, s1.bh.seq hs, fun p hp => q p _ B1 _ (s1.trans (.newOwn s1.bh hp)) (s1.hh.free hp) (s1.bh.free hp) upd_same (dqall_rev hA)⟩
end
end DX

namespace DX
open PySem L2

/-! ### statements -/
structure EndsD where
  nx : List SV → Prop
  rt : D → Prop
  bk : List SV → Prop := fun _ => False
  ct : List SV → Prop := fun _ => False
structure Lift (K : PySem.W.Frag) (B0 H0 : Hp) (E : EndsD) (D : Ends) : Prop where
  nx : ∀ σ H B δ, Sd K B0 H0 B H σ δ → E.nx δ → D.nx σ H
  rt : ∀ v B H d, Hist B0 H0 B H → Dq K B v d → E.rt d → D.rt v H
  bk : ∀ σ H B δ, Sd K B0 H0 B H σ δ → E.bk δ → D.bk σ H
  ct : ∀ σ H B δ, Sd K B0 H0 B H σ δ → E.ct δ → D.ct σ H
def WP (K : PySem.W.Frag) (ts : TS) (E : EndsD) (δ : List SV) : Prop := ∀ (B0 H0 B H : Hp) (σ : L2.St) (D : Ends), Lift K B0 H0 E D → Sd K B0 H0 B H σ δ → ts D σ H
/-- assignment to a target -/
def GD (K : PySem.W.Frag) (g : TG) (δ : List SV) (d : D) (δ' : List SV) : Prop := ∀ (B0 H0 B H : Hp) (σ : L2.St) (v : V) (Q : L2.St → Hp → Prop), Sd K B0 H0 B H σ δ → Dq K B v d → (∀ σ', Sd K B0 H0 B H σ' δ' → Q σ' H) → g v σ H Q
def GDs (K : PySem.W.Frag) (g : TGs) (δ : List SV) (ds : List D) (δ' : List SV) : Prop := ∀ (B0 H0 B H : Hp) (σ : L2.St) (vs : List V) (Q : L2.St → Hp → Prop), Sd K B0 H0 B H σ δ → DqAll K B vs ds → (∀ σ', Sd K B0 H0 B H σ' δ' → Q σ' H) → g vs σ H Q
section
variable {K : PySem.W.Frag} {δ δ' δ'' : List SV} {ta tb te : TE} {c : TT} {t u : TS} {d x y : D} {ds es : List D} {E : EndsD}
theorem gd_name {i : Nat} : GD K (gName i) δ d (δ.set i (.val d)) := fun B0 H0 B H σ v Q S h q => q _ (S.setVal h)
theorem gds_nil : GDs K gNil δ [] δ := fun B0 H0 B H σ vs Q S h q => by
  cases h
  exact ⟨rfl, q σ S⟩
theorem gds_cons {g : TG} {gs : TGs} (h1 : GD K g δ d δ') (h2 : GDs K gs δ' ds δ'') : GDs K (gCons g gs) δ (d :: ds) δ'' := fun B0 H0 B H σ vs Q S h q => by
  cases h with
  | cons a b => exact ⟨_, _, rfl, h1 B0 H0 B H σ _ _ S a fun σ' S' => h2 B0 H0 B H σ' _ _ S' b q⟩
theorem gd_tup {g : TGs} {n : Nat} (h : GDs K g δ ds δ') (e : ds.length = n) : GD K (gTup K n g) δ (.tuple ds) δ' := fun B0 H0 B H σ v Q S a q => by
  cases a with
  | tup hs hA => exact ⟨_, _, rfl, sqT_up S.hist.bh hs, hA.len.trans e, h B0 H0 B H σ _ Q S hA q⟩

theorem wp_seq (h : WP K t { E with nx := fun δ' => WP K u E δ' } δ) : WP K (tSeq t u) E δ := fun B0 H0 B H σ D L S =>
  h B0 H0 B H σ { D with nx := u D } ⟨fun σ' H' B' δ' S' w => w B0 H0 B' H' σ' D L S', L.rt, L.bk, L.ct⟩ S
theorem wp_next (h : E.nx δ) : WP K tNext E δ := fun B0 H0 B H σ D L S => L.nx σ H B δ S h
theorem wp_asgG {g : TG} (h : ED K te δ d) (hg : GD K g δ d δ') (q : E.nx δ') : WP K (tAsg te g) E δ := fun B0 H0 B H σ D L S =>
  h B0 H0 B H σ _ S fun v B1 H1 s1 a => hg B0 H0 B1 H1 σ v _ (S.step s1) a fun σ' S' => L.nx σ' H1 B1 δ' S' q
theorem wp_asg {i : Nat} (h : ED K te δ d) (q : E.nx (δ.set i (.val d))) : WP K (tAsg te (gName i)) E δ := wp_asgG h gd_name q
theorem wp_asgN {i : Nat} (h : EN K te δ ds) (q : E.nx (δ.set i (.own (.l ds)))) : WP K (tAsg te (gName i)) E δ := fun B0 H0 B H σ D L S =>
  h B0 H0 B H σ _ S fun p vs B1 H1 s1 np bp hp a => by
    refine L.nx _ H1 B1 _ ((S.step s1).set (x := .own (.l ds)) (show SlotOk K B1 H1 H0 (some (.ref p)) (.own (.l ds)) from ⟨p, .lst vs, rfl, hp, bp, S.hist.hh.free np, vs, rfl, a⟩) fun es _ j pp es' _ e1 e2 e3 => ?_) q
    cases e1
    obtain ⟨p', vs', a1, a2, _⟩ := S.slotObj e2
    rw [e3] at a1; cases a1
    rw [np] at a2; cases a2
theorem wp_par {i j : Nat} {ta : TA} (h : EA K ta δ [x, y]) (q : E.nx ((δ.set i (.val x)).set j (.val y))) : WP K (tPar i j ta) E δ := fun B0 H0 B H σ D L S =>
  h B0 H0 B H σ _ S fun vs B1 H1 s1 a => by
    obtain ⟨v, w, rfl, b, c⟩ := a.two
    exact ⟨v, w, rfl, L.nx _ H1 B1 _ (((S.step s1).setVal b).setVal c) q⟩
theorem wp_ret (h : ED K te δ d) (q : E.rt d) : WP K (tRet te) E δ := fun B0 H0 B H σ D L S =>
  h B0 H0 B H σ _ S fun v B1 H1 s1 a => L.rt v B1 H1 d (s1.hist S.hist) a q
theorem wp_retN (q : E.rt .none) : WP K tRetN E δ := fun B0 H0 B H σ D L S => L.rt _ B H .none S.hist .non q
theorem wp_if {b : Bool} (h : ET K c δ b) (h1 : b = true → WP K t E δ) (h2 : b = false → WP K u E δ) : WP K (tIfS c t u) E δ := fun B0 H0 B H σ D L S =>
  h B0 H0 B H σ _ S fun B1 H1 s1 => by
    cases b with
    | true => exact iteT (h1 rfl B0 H0 B1 H1 σ D L (S.step s1))
    | false => exact iteF (h2 rfl B0 H0 B1 H1 σ D L (S.step s1))
theorem wp_drop (h : ED K te δ d) (q : E.nx δ) : WP K (tDrop te) E δ := fun B0 H0 B H σ D L S =>
  h B0 H0 B H σ _ S fun v B1 H1 s1 a => L.nx σ H1 B1 δ (S.step s1) q
theorem wp_break (q : E.bk δ) : WP K tBreak E δ := fun B0 H0 B H σ D L S => L.bk σ H B δ S q
theorem wp_cont (q : E.ct δ) : WP K tCont E δ := fun B0 H0 B H σ D L S => L.ct σ H B δ S q
/-- an owned list is known from now on -/
theorem Sd.freezeAt {B0 H0 B H : Hp} {σ : L2.St} {i : Nat} {p : Addr} {vs : List V} (S : Sd K B0 H0 B H σ δ) (e : δ[i]? = some (.own (.l ds))) (a1 : σ[i]? = some (some (.ref p))) (hp : H p = some (.lst vs)) (bp : B p = none) (h0 : H0 p = none) (dp : DqAll K B vs ds) :
    Sd K B0 H0 (upd B p (.lst vs)) H σ (δ.set i (.val (.list ds))) := by
  obtain ⟨k1, k2⟩ := Stp.know (o := .lst vs) S.hist.bh bp hp
  refine ⟨⟨S.hist.bb.trans k1, k2, S.hist.hh, fun a q z => ?_⟩, by rw [List.length_set]; exact S.len, fun j s ej => ?_, fun j k q es fs n e1 e2 e3 e4 => ?_⟩
  · have : a ≠ p := fun e => by subst e; exact q h0
    rw [upd_ne this]; exact S.hist.fr a q z
  · rcases get_set ej with ⟨rfl, rfl⟩ | ⟨hne, ej⟩
    · exact ⟨_, a1, .ref p, rfl, .lst (.inl (.inl upd_same)) (DqAll.up k1 _ _ dp)⟩
    · obtain ⟨o, eo, ok⟩ := S.ok j s ej
      refine ⟨o, eo, ?_⟩
      cases s with
      | no => exact True.intro
      | val d => obtain ⟨v, e1, e2⟩ := ok; exact ⟨v, e1, Dq.up k1 _ _ e2⟩
      | own es =>
        obtain ⟨pp, ws, e1, e2, e3, e4, e5⟩ := ok
        have hne2 : pp ≠ p := fun z => by
          subst z
          subst e1
          exact S.apart i j pp (.l ds) es hne e ej a1 eo
        exact ⟨pp, ws, e1, e2, by rw [upd_ne hne2]; exact e3, e4, e5.up k1⟩
  · rcases get_set e1 with ⟨_, z⟩ | ⟨_, e1⟩
    · cases z
    · rcases get_set e2 with ⟨_, z⟩ | ⟨_, e2⟩
      · cases z
      · exact S.apart j k q es fs n e1 e2 e3 e4
theorem Sd.freeze {B0 H0 B H : Hp} {σ : L2.St} {i : Nat} (S : Sd K B0 H0 B H σ δ) (e : δ[i]? = some (.own (.l ds))) : ∃ B', Sd K B0 H0 B' H σ (δ.set i (.val (.list ds))) ∧ Same B B' := by
  obtain ⟨p, vs, a1, hp, bp, h0, dp⟩ := S.slotOwn e
  exact ⟨_, S.freezeAt e a1 hp bp h0 dp, (Stp.know (o := .lst vs) S.hist.bh bp hp).1⟩
theorem wp_freeze (i : Nat) (e : δ[i]? = some (.own (.l ds))) (h : WP K t E (δ.set i (.val (.list ds)))) : WP K t E δ := fun B0 H0 B H σ D L S => by
  obtain ⟨B', S', _⟩ := S.freeze e
  exact h B0 H0 B' H σ D L S'
theorem wp_retOwn {i : Nat} (e : δ[i]? = some (.own (.l ds))) (q : E.rt (.list ds)) : WP K (tRet (tVar i)) E δ :=
  wp_freeze i e (wp_ret (ed_var (by
    have hl : i < δ.length := (List.getElem?_eq_some_iff.mp e).1
    rw [List.getElem?_set_self hl])) q)
/-- xs.append(e), xs owned -/
theorem own_upd {B0 H0 B H : Hp} {σ : L2.St} {i : Nat} {p : Addr} {u : HO} {xo yo : OD} (S : Sd K B0 H0 B H σ δ) (e : δ[i]? = some (.own xo)) (a1 : σ[i]? = some (some (.ref p))) (bp : B p = none) (h0 : H0 p = none) (h : OwnRep K B u yo) : Sd K B0 H0 B (upd H p u) σ (δ.set i (.own yo)) := by
  have hsi : i < δ.length := (List.getElem?_eq_some_iff.mp e).1
  refine ⟨⟨S.hist.bb, fun a o ea => ?_, fun a o ea => ?_, S.hist.fr⟩, by rw [List.length_set]; exact S.len, fun j s ej => ?_, fun j k q es' fs n e1 e2 e3 e4 => ?_⟩
  · have : a ≠ p := fun z => by subst z; rw [bp] at ea; cases ea
    rw [upd_ne this]; exact S.hist.bh _ _ ea
  · have : a ≠ p := fun z => by subst z; rw [h0] at ea; cases ea
    rw [upd_ne this]; exact S.hist.hh _ _ ea
  · rcases get_set ej with ⟨rfl, rfl⟩ | ⟨hne, ej⟩
    · exact ⟨_, a1, p, u, rfl, upd_same, bp, h0, h⟩
    · obtain ⟨o, eo, ok⟩ := S.ok j s ej
      refine ⟨o, eo, ?_⟩
      cases s with
      | no => exact True.intro
      | val d => exact ok
      | own es' =>
        obtain ⟨pp, us, e1, e2, e3, e4, e5⟩ := ok
        have hne2 : pp ≠ p := fun z => by
          subst z
          subst e1
          exact S.apart i j pp xo es' hne e ej a1 eo
        exact ⟨pp, us, e1, by rw [upd_ne hne2]; exact e2, e3, e4, e5⟩
  · have back : ∀ {m : Nat} {gs : OD}, (δ.set i (.own yo))[m]? = some (.own gs) → ∃ gs', δ[m]? = some (.own gs') := fun {m gs} z => by
      rcases get_set z with ⟨rfl, _⟩ | ⟨_, z⟩
      · exact ⟨_, e⟩
      · exact ⟨_, z⟩
    obtain ⟨g1, f1⟩ := back e1
    obtain ⟨g2, f2⟩ := back e2
    exact S.apart j k q g1 g2 n f1 f2 e3 e4
theorem wp_app {i : Nat} (e : δ[i]? = some (.own (.l ds))) (h : ED K te δ d) (hl : ds.length < sizeLine) (q : E.nx (δ.set i (.own (.l (ds ++ [d]))))) : WP K (tDrop (tBM K "list" rAppend (tVar i) (tCons te tNil))) E δ := fun B0 H0 B H σ D L S => by
  obtain ⟨p, vs, a1, hp, bp, h0, dp⟩ := S.slotOwn e
  refine ⟨_, a1, .inl ⟨rfl, vs, .inl (.inl hp)⟩, h B0 H0 B H σ _ S fun v B1 H1 s1 a => ?_⟩
  have S1 := S.step s1
  obtain ⟨p', vs', a1', hp', bp', h0', dp'⟩ := S1.slotOwn e
  rw [a1] at a1'; cases a1'
  refine ⟨p, vs', v, rfl, rfl, hp', by rw [dp'.len]; exact hl, L.nx _ _ B1 _ (own_upd (yo := .l _) S1 e a1 bp' h0' ⟨_, rfl, dp'.app (.cons a .nil)⟩) q⟩
theorem ixN_at {n : Nat} {i : Int} {j : Nat} (h0 : 0 ≤ i) (h : i < n) (e : i.toNat = j) : ixN n i = some j := by
  unfold ixN
  rw [if_pos h0, if_pos h, e]
/-- xs[i] = e, xs owned -/
theorem wp_setOwn {i : Nat} {k : Int} {j : Nat} (e : δ[i]? = some (.own (.l ds))) (h : ED K te δ d) (hk : ED K tb δ (.int k)) (hj : ixN ds.length k = some j) (q : E.nx (δ.set i (.own (.l (ds.set j d))))) : WP K (tAsg te (gSub (tVar i) tb rSetL)) E δ := fun B0 H0 B H σ D L S =>
  h B0 H0 B H σ _ S fun v B1 H1 s1 a => by
    have S1 := S.step s1
    obtain ⟨p, vs, a1, hp, bp, h0, dp⟩ := S1.slotOwn e
    refine ⟨_, a1, hk B0 H0 B1 H1 σ _ S1 fun w B2 H2 s2 b => ?_⟩
    cases Dq.int_inv b
    have S2 := S1.step s2
    obtain ⟨p', vs', a1', hp', bp', h0', dp'⟩ := S2.slotOwn e
    rw [a1] at a1'; cases a1'
    exact ⟨p, vs', k, j, rfl, rfl, hp', by rw [dp'.len]; exact hj, L.nx _ _ B2 _ (own_upd (yo := .l _) S2 e a1 bp' h0' ⟨_, rfl, dp'.set (Dq.up s2.bb _ _ a) j⟩) q⟩
/-- x op= e, ints -/
theorem wp_aug {i : Nat} {f : Int → Int → Int} {a b : Int} (hx : δ[i]? = some (.val (.int a))) (h : ED K te δ (.int b)) (q : E.nx (δ.set i (.val (.int (f a b))))) : WP K (tAug i te (ipI f)) E δ := fun B0 H0 B H σ D L S => by
  obtain ⟨v, e, dv⟩ := S.slot hx
  cases Dq.int_inv dv
  refine ⟨_, e, h B0 H0 B H σ _ S fun w B1 H1 s1 c => ?_⟩
  cases Dq.int_inv c
  exact ⟨a, b, rfl, rfl, L.nx _ H1 B1 _ ((S.step s1).setVal (.int _)) q⟩
/-! ### loops -/
theorem wp_for {wi : TI} {g : TG} (I : Nat → List SV → Prop) (hw : EI K wi δ ds) (h0 : I 0 δ)
    (hs : ∀ k d δ', ds[k]? = some d → I k δ' → ∃ δ'', GD K g δ' d δ'' ∧ WP K t { E with nx := I (k + 1), ct := I (k + 1), bk := E.nx } δ'') (hd : ∀ δ', I ds.length δ' → E.nx δ') : WP K (tFor wi g t) E δ := fun B0 H0 B H σ D L S =>
  hw B0 H0 B H σ _ S fun J B1 H1 s1 yd => by
    have S1 := S.step s1
    refine ⟨fun k m σ' H' => m = ds.length - k ∧ k ≤ ds.length ∧ ∃ B' δ', Sd K B1 H0 B' H' σ' δ' ∧ I k δ', ⟨_, rfl, Nat.zero_le _, B1, δ, S1.past S1.hist.bb (Same.refl _), h0⟩, ?_⟩
    rintro k m σ' H' ⟨rfl, hk, B', δ', S', ik⟩
    obtain ⟨y1, y2⟩ := yd B' H' k S'.hist.bb S'.hist.bh
    by_cases hlt : k < ds.length
    · obtain ⟨go, yy⟩ := y1 hlt
      refine .inr ⟨go, fun σ2 H2 => ∃ B2 δ2, Sd K B1 H0 B2 H2 σ2 δ2 ∧ I (k + 1) δ2, fun σ2 H2 ⟨B2, δ2, S2, i2⟩ => ⟨ds.length - (k + 1), by omega, rfl, hlt, B2, δ2, S2, i2⟩, fun x H2 yl => ?_⟩
      obtain ⟨B2, d, s2, ed, dp⟩ := yy x H2 yl
      obtain ⟨δ'', gd, wp⟩ := hs k d δ' ed ik
      refine gd B1 H0 B2 H2 σ' x _ (S'.step s2) dp fun σ3 S3 => wp B1 H0 B2 H2 σ3 _ ⟨fun σ4 H4 B4 δ4 S4 q => ⟨B4, δ4, S4, q⟩, fun v B4 H4 d' hh dv q => L.rt v B4 H4 d' (hh.back S1.hist) dv q, fun σ4 H4 B4 δ4 S4 q => L.nx σ4 H4 B4 δ4 (S4.back S1.hist) q, fun σ4 H4 B4 δ4 S4 q => ⟨B4, δ4, S4, q⟩⟩ S3
    · have e : k = ds.length := by omega
      subst e
      exact .inl ⟨y2 rfl, L.nx σ' H' B' δ' (S'.back S1.hist) (hd δ' ik)⟩
/-- one name as target -/
theorem wp_for1 {wi : TI} {i : Nat} (I : Nat → List SV → Prop) (hw : EI K wi δ ds) (h0 : I 0 δ)
    (hs : ∀ k d δ', ds[k]? = some d → I k δ' → WP K t { E with nx := I (k + 1), ct := I (k + 1), bk := E.nx } (δ'.set i (.val d))) (hd : ∀ δ', I ds.length δ' → E.nx δ') : WP K (tFor wi (gName i) t) E δ :=
  wp_for I hw h0 (fun k d δ' e ik => ⟨_, gd_name, hs k d δ' e ik⟩) hd
theorem wp_forG {α : Type} {xs : List α} {g : α → D} {wi : TI} {i : Nat} (I : Nat → List SV → Prop) (hw : EI K wi δ (xs.map g)) (h0 : I 0 δ)
    (hs : ∀ k x δ', xs[k]? = some x → I k δ' → WP K t { E with nx := I (k + 1), ct := I (k + 1), bk := E.nx } (δ'.set i (.val (g x)))) (hd : ∀ δ', I xs.length δ' → E.nx δ') : WP K (tFor wi (gName i) t) E δ :=
  wp_for1 I hw h0 (fun k d δ' e ik => by
    rw [List.getElem?_map] at e
    cases q : xs[k]? with
    | none => rw [q] at e; cases e
    | some x => rw [q] at e; cases e; exact hs k x δ' q ik) (by rw [List.length_map]; exact hd)
theorem wp_while (I : Nat → List SV → Prop) {n : Nat} (h0 : I n δ)
    (hs : ∀ n δ', I n δ' → ∃ b, ET K c δ' b ∧ (b = true → WP K t { E with nx := fun δ2 => ∃ m, m < n ∧ I m δ2, ct := fun δ2 => ∃ m, m < n ∧ I m δ2, bk := E.nx } δ') ∧ (b = false → E.nx δ')) : WP K (tWhile c t) E δ := fun B0 H0 B H σ D L S => by
  refine ⟨fun m σ' H' => ∃ B' δ', Sd K B0 H0 B' H' σ' δ' ∧ I m δ', ⟨n, B, δ, S, h0⟩, ?_⟩
  rintro m σ' H' ⟨B', δ', S', im⟩
  obtain ⟨b, hb, h1, h2⟩ := hs m δ' im
  refine hb B0 H0 B' H' σ' _ S' fun B2 H2 s2 => ?_
  cases b with
  | true =>
    refine iteT ⟨fun σ3 H3 => ∃ m', m' < m ∧ ∃ B3 δ3, Sd K B0 H0 B3 H3 σ3 δ3 ∧ I m' δ3, fun σ3 H3 z => z, h1 rfl B0 H0 B2 H2 σ' _ ⟨?_, L.rt, L.nx, ?_⟩ (S'.step s2)⟩
    · rintro σ4 H4 B4 δ4 S4 ⟨m', l, q⟩
      exact ⟨m', l, B4, δ4, S4, q⟩
    · rintro σ4 H4 B4 δ4 S4 ⟨m', l, q⟩
      exact ⟨m', l, B4, δ4, S4, q⟩
  | false => exact iteF (L.nx σ' H2 B2 δ' (S'.step s2) (h2 rfl))
end
/-! ### a def -/
def startD (N : List Str) (ds : List D) : List SV := ds.map .val ++ List.replicate (N.length - ds.length) .no
section
variable {P : Program} {w : World} {K : PySem.W.Frag} {mg : Str → Option Value} {base : Heap}
theorem start_sd {N : List Str} {vs : List V} {ds : List D} {B H : Hp} (bh : Same B H) (h : DqAll K B vs ds) : Sd K B H B H (L2.start N vs) (startD N ds) := by
  have hl := h.len
  refine ⟨⟨Same.refl _, bh, Same.refl _, fun _ _ z => z⟩, ?_, fun i s e => ?_, fun i j p es fs n e1 e2 e3 e4 => ?_⟩
  · unfold L2.start startD
    rw [List.length_append, List.length_append, List.length_map, List.length_map, List.length_replicate, List.length_replicate, hl]
  · unfold startD at e
    unfold L2.start
    by_cases hi : i < ds.length
    · rw [List.getElem?_append_left (by rw [List.length_map]; exact hi), List.getElem?_map, List.getElem?_eq_getElem hi] at e
      cases e
      obtain ⟨v, a, b⟩ := h.get (List.getElem?_eq_getElem hi)
      rw [List.getElem?_append_left (by rw [List.length_map, hl]; exact hi), List.getElem?_map, a]
      exact ⟨_, rfl, v, rfl, b⟩
    · rw [List.getElem?_append_right (by rw [List.length_map]; omega), List.length_map] at e
      rw [List.getElem?_append_right (by rw [List.length_map, hl]; omega), List.length_map, hl]
      rw [List.getElem?_replicate] at e ⊢
      by_cases hz : i - ds.length < N.length - ds.length
      · rw [if_pos hz] at e ⊢
        cases e
        exact ⟨_, rfl, True.intro⟩
      · rw [if_neg hz] at e; cases e
  · unfold startD at e1
    by_cases hi : i < ds.length
    · rw [List.getElem?_append_left (by rw [List.length_map]; exact hi), List.getElem?_map, List.getElem?_eq_getElem hi] at e1
      cases e1
    · rw [List.getElem?_append_right (by rw [List.length_map]; omega), List.length_map, List.getElem?_replicate] at e1
      by_cases hz : i - ds.length < N.length - ds.length
      · rw [if_pos hz] at e1; cases e1
      · rw [if_neg hz] at e1; cases e1
theorem ok_wp {x qual : Str} {st : Stmt} {f : Addr} {fd : FuncData} {N ps : List Str} {k : Nat} {R : List D → D → Prop} (F : Fun K x qual st f fd) (S : FnScope N ps (defScope st)) (len : ∀ ds d, R ds d → ds.length = ps.length)
    (hb : ∀ (cdv : Value) (A : Around) (outer : List Env) (s : Shared) (H : Hp) (E : XK), Room k (A.deeper (PyProof.Rows.envOfC qual (defScope st) s.heap.objs.size f cdv)) →
      ∃ t, PSs (cxOf CX0 P w K mg base N qual (defScope st) f cdv A outer s H E).nox (defBody st) t ∧ ∀ ds d, R ds d → WP K t { nx := fun _ => PyData.none = d, rt := fun d' => d' = d } (startD N ds)) : FnOk P w K mg base CX0 (k + 1) f fd ps (spD K R) := by
  refine F.ok S (fun vs H Q E h => ?_) (fun cdv A outer s H vs Q E hr h => ?_)
  · obtain ⟨B, ds, d, r, bh, a, _⟩ := h
    rw [a.len]; exact len ds d r
  · obtain ⟨t, ht, q⟩ := hb cdv A outer s H E hr
    refine ⟨t, ht, ?_⟩
    obtain ⟨B, ds, d, r, bh, a, hq⟩ := h
    refine q ds d r B H B H _ _ ⟨fun σ' H' B' δ' S' e => ?_, fun v B' H' d' hh dv e => ?_, fun _ _ _ _ _ z => z.elim, fun _ _ _ _ _ z => z.elim⟩ (start_sd bh a)
    · subst e
      exact hq _ B' H' ⟨S'.hist.bb, S'.hist.bh, S'.hist.hh, S'.hist.fr⟩ .non
    · subst e
      exact hq v B' H' ⟨hh.bb, hh.bh, hh.hh, hh.fr⟩ dv
end
end DX

namespace DX
open PySem L2

/-! ### rules with the written part named -/
section
variable {X : Cx} {K : PySem.W.Frag} {tg l e : Expr} {tl te : TE} {pos : Pos}
theorem kx_ix (hK : X.K = K := by rfl) : IxR X (rIx K) := by subst hK; exact ix_seq
theorem kx_sl (hK : X.K = K := by rfl) : SlR X (rSlL K) := by subst hK; exact sl_list
theorem kx_len (hK : X.K = K := by rfl) : CallR X (.builtin "len") (rLenQ K) := by subst hK; exact cr_lenQ
theorem kx_list (hK : X.K = K := by rfl) : CallR X (.type "list") (rListQ K) := by subst hK; exact cr_listQ
theorem kx_tuple (hK : X.K = K := by rfl) : CallR X (.type "tuple") (rTupleQ K) := by subst hK; exact cr_tupleQ
theorem kx_isi (hK : X.K = K := by rfl) : CallR X (.builtin "isinstance") (rIsi K) := by subst hK; exact call_isi
theorem kx_sum (hK : X.K = K := by rfl) (hc : X.calm = true := by rfl) : CallR X (.builtin "sum") (rSum K) := by subst hK; exact cr_sum hc
theorem kx_all (hK : X.K = K := by rfl) (hc : X.calm = true := by rfl) : CallR X (.builtin "all") (rAll K) := by subst hK; exact cr_all hc
theorem kx_any (hK : X.K = K := by rfl) (hc : X.calm = true := by rfl) : CallR X (.builtin "any") (rAny K) := by subst hK; exact cr_any hc
theorem kx_eq (hu : X.A.units + 64 < cLine) (hK : X.K = K := by rfl) : OpR X (compareOp .Eq) (rEqD K) := by subst hK; exact op_eqD hu
theorem kx_ne (hu : X.A.units + 64 < cLine) (hK : X.K = K := by rfl) : OpR X (compareOp .NotEq) (rNeD K) := by subst hK; exact op_neD hu
theorem kpi_list (hl : PE X l tl) (hK : X.K = K := by rfl) : PI X tg l (iList K tl) := by subst hK; exact pi_list hl
theorem kpi_tup (hl : PE X l tl) (hK : X.K = K := by rfl) : PI X tg l (iTup K tl) := by subst hK; exact pi_tup hl
theorem kpg_tup {es : List Expr} {k : Nat} {t : TGs} {n : Nat} (hc : X.calm = true) (h : PGs X es t) (hK : X.K = K := by rfl)
    (hn : (assignEach es X.env).length = n := by rfl) (hst : (assignEach es X.env).findIdx? (·.1) = none := by rfl) : PG X (.Tuple es k pos) (gTup K n t) := by subst hK; exact pg_tup hc h hn hst
theorem kpe_rev {k : Nat} {p1 p2 p3 : Pos} (he : PE X e te) (hK : X.K = K := by rfl) : PE X (.Subscript e (.Slice none none (some (.UnaryOp .USub (.Constant (.int 1) k p1) p2)) p3) pos) (tRevL K te) := by subst hK; exact pe_revL he
end
/-! ### data that may be compared -/
def Shp (n : Nat) (d : D) : Prop := d.canLay0 = true ∧ d.depth ≤ n
theorem Shp.shaped {n : Nat} {d : D} (h : Shp n d) (hn : n ≤ 64 := by decide) : SeqAt.shaped d = true := by
  unfold SeqAt.shaped
  rw [h.1, Bool.true_and]
  exact decide_eq_true (Nat.le_trans h.2 hn)
theorem shp_int {n : Nat} {i : Int} : Shp n (.int i) := by
  refine ⟨by simp only [PyData.canLay0], ?_⟩
  simp only [PyData.depth]; omega
theorem shp_bool {n : Nat} {b : Bool} : Shp n (.bool b) := by
  refine ⟨by simp only [PyData.canLay0], ?_⟩
  simp only [PyData.depth]; omega
theorem shp_none {n : Nat} : Shp n .none := by
  refine ⟨by simp only [PyData.canLay0], ?_⟩
  simp only [PyData.depth]; omega
theorem shp_all {n : Nat} : ∀ {ds : List D}, (∀ d ∈ ds, Shp n d) → PyData.canLayAll0 ds = true ∧ PyData.depthAll ds ≤ n
  | [], _ => ⟨by simp only [PyData.canLayAll0], by simp only [PyData.depthAll]; omega⟩
  | d :: ds, h => by
    obtain ⟨a, b⟩ := h d (List.mem_cons_self ..)
    obtain ⟨c, e⟩ := shp_all (ds := ds) fun x hx => h x (List.mem_cons_of_mem _ hx)
    refine ⟨?_, ?_⟩
    · simp only [PyData.canLayAll0, a, c, Bool.and_self]
    · simp only [PyData.depthAll]; omega
theorem shp_list {n : Nat} {ds : List D} (h : ∀ d ∈ ds, Shp n d) : Shp (n + 1) (.list ds) := by
  obtain ⟨a, b⟩ := shp_all h
  refine ⟨by simp only [PyData.canLay0, a], ?_⟩
  simp only [PyData.depth]; omega
theorem shp_tup {n : Nat} {ds : List D} (h : ∀ d ∈ ds, Shp n d) : Shp (n + 1) (.tuple ds) := by
  obtain ⟨a, b⟩ := shp_all h
  refine ⟨by simp only [PyData.canLay0, a], ?_⟩
  simp only [PyData.depth]; omega
theorem shp_map {α : Type} {n : Nat} {xs : List α} {g : α → D} (h : ∀ x, Shp n (g x)) : ∀ d ∈ xs.map g, Shp n d := fun d hd => by
  obtain ⟨x, _, rfl⟩ := List.mem_map.mp hd
  exact h x
theorem shp_ints {n : Nat} {ns : List Int} : Shp (n + 1) (.list (ns.map PyData.int)) := shp_list (shp_map fun _ => shp_int)
theorem shp_tints {n : Nat} {ns : List Int} : Shp (n + 1) (.tuple (ns.map PyData.int)) := shp_tup (shp_map fun _ => shp_int)
theorem eqv_self {n : Nat} {d : D} (h : Shp n d) : PyData.eqv d d = true := PySem.SeqAt.eqv_refl d h.1

section
variable {K : PySem.W.Frag} {δ δ' δ'' : List SV} {ta tb te : TE} {c : TT} {t u : TS} {d x y : D} {ds es : List D} {E : EndsD}
theorem wp_cut (C : List SV → Prop) (h : WP K t { E with nx := C } δ) (q : ∀ δ', C δ' → E.nx δ') : WP K t E δ := fun B0 H0 B H σ D L S =>
  h B0 H0 B H σ D ⟨fun σ' H' B' δ' S' z => L.nx σ' H' B' δ' S' (q δ' z), L.rt, L.bk, L.ct⟩ S
theorem ei_rngN {n : Nat} {i : Int} (h : ED K te δ (.int i)) (e : i = (n : Int)) (hn : n ≤ 1000000) : EI K (iRng1 (tCons te tNil)) δ ((List.range n).map fun k => PyData.int (k : Nat)) := by
  subst e
  refine EI.of (ei_rng1 h (by omega)) ?_
  unfold rngD
  rw [Int.toNat_natCast]
  congr 1
  funext k
  rw [Int.zero_add]
/-! ### expressions that give some datum -/
def EP (K : PySem.W.Frag) (te : TE) (δ : List SV) (P : D → Prop) : Prop := ∀ (B0 H0 B H : Hp) (σ : L2.St) (Q : VK), Sd K B0 H0 B H σ δ → (∀ v B' H' d, Stp B H B' H' → Dq K B' v d → P d → Q v H') → te σ H Q
theorem ED.ep (h : ED K te δ d) : EP K te δ (fun x => x = d) := fun B0 H0 B H σ Q S q => h B0 H0 B H σ Q S fun v B' H' s a => q v B' H' d s a rfl
def spP (K : PySem.W.Frag) (Pre : List D → Prop) (Post : List D → D → Prop) : Sp := fun vs H Q _ => ∃ B ds, Pre ds ∧ Same B H ∧ DqAll K B vs ds ∧ ∀ v B' H' d, Stp B H B' H' → Dq K B' v d → Post ds d → Q v H'
theorem ep_call {ta : TA} {Pre : List D → Prop} {Post : List D → D → Prop} {X : XK} (h : EA K ta δ ds) (r : Pre ds) : EP K (tCall (spP K Pre Post) [] X ta) δ (Post ds) := fun B0 H0 B H σ Q S q =>
  h B0 H0 B H σ _ S fun vs B1 H1 s1 a => ⟨B1, ds, r, s1.bh, by rw [List.append_nil]; exact a, fun v B' H' d s2 b p => q v B' H' d (s1.trans s2) b p⟩
theorem wp_asgP {i : Nat} {P : D → Prop} (h : EP K te δ P) (q : ∀ d, P d → E.nx (δ.set i (.val d))) : WP K (tAsg te (gName i)) E δ := fun B0 H0 B H σ D L S =>
  h B0 H0 B H σ _ S fun v B1 H1 d s1 a p => L.nx _ H1 B1 _ ((S.step s1).setVal a) (q d p)
theorem wp_retP {P : D → Prop} (h : EP K te δ P) (q : ∀ d, P d → E.rt d) : WP K (tRet te) E δ := fun B0 H0 B H σ D L S =>
  h B0 H0 B H σ _ S fun v B1 H1 d s1 a p => L.rt v B1 H1 d (s1.hist S.hist) a (q d p)
end

theorem cx_K {CX : CXT} {P : Program} {w : World} {K : PySem.W.Frag} {mg : Str → Option Value} {base : Heap} {N : List Str} {q : Str} {sc : Scope} {f : Addr} {cd : Value} {A : Around} {outer : List Env} {s : Shared} {H : Hp} {E : XK} :
    (cxOf CX P w K mg base N q sc f cd A outer s H E).K = K := rfl
theorem nox_K {X : Cx} : X.nox.K = X.K := rfl
theorem blk_K {X : Cx} {s : Shared} {H : Hp} {sc : Scope} {e : Env} {fp : List Addr} : (X.blk s H sc e fp).K = X.K := rfl
/-! ### sizes -/
def Lt (k : Nat) (n : Int) : Prop := n.natAbs < 2 ^ k
theorem Lt.mono {a b : Nat} {n : Int} (h : Lt a n) (e : a ≤ b := by decide) : Lt b n := Nat.lt_of_lt_of_le h (Nat.pow_le_pow_right (by decide) e)
theorem Lt.mul {a b : Nat} {i j : Int} (h : Lt a i) (h' : Lt b j) : Lt (a + b) (i * j) := wide_lt h h'
theorem Lt.add {k : Nat} {i j : Int} (h : Lt k i) (h' : Lt k j) : Lt (k + 1) (i + j) := by
  unfold Lt at *
  rw [Nat.pow_succ]
  omega
theorem Lt.sub {k : Nat} {i j : Int} (h : Lt k i) (h' : Lt k j) : Lt (k + 1) (i - j) := by
  unfold Lt at *
  rw [Nat.pow_succ]
  omega
theorem Lt.neg {k : Nat} {i : Int} (h : Lt k i) : Lt k (-i) := by
  unfold Lt at *
  omega
theorem Lt.le {k : Nat} {i j : Int} (h : Lt k j) (e : i.natAbs ≤ j.natAbs) : Lt k i := Nat.lt_of_le_of_lt e h
theorem mulX {i j : Int} {a b : Nat} (h : Lt a i) (h' : Lt b j) (ha : 0 < a := by decide) (hb : 0 < b := by decide) (hl : a + b ≤ 1000000 := by decide) : CMulX i j := .inr (wide_mul h h' ha hb hl)
theorem mulL {i j : Int} (h : -(2 ^ 64) < i ∧ i < 2 ^ 64) : CMulX i j := .inl (.inl h)
theorem mulR {i j : Int} (h : -(2 ^ 64) < j ∧ j < 2 ^ 64) : CMulX i j := .inl (.inr h)
theorem divX {i j : Int} {k : Nat} (h : j ≠ 0) (hl : Lt k j) (hk : k ≤ 9000 := by decide) (h0 : 0 < k := by decide) : CDivX i j := ⟨h, Nat.lt_of_lt_of_le (PySem.Flt.log2_lt_of h0 hl) hk⟩
theorem powX {i j : Int} (h : 0 ≤ j ∧ j ≤ 1000000 ∧ i.natAbs < 2 ^ 64) : CPow i j := h
theorem gcd_pos {n m : Int} (h : m ≠ 0) : 0 < Nat.gcd n.natAbs m.natAbs := Nat.gcd_pos_of_pos_right _ (Int.natAbs_pos.mpr h)
theorem gcd_le {n m : Int} (h : m ≠ 0) : Nat.gcd n.natAbs m.natAbs ≤ m.natAbs := Nat.gcd_le_right _ (Int.natAbs_pos.mpr h)

/-! ### numbers -/
def numV (p : Int × Int) : D := .tuple [.int p.1, .int p.2]
theorem shp_num {n : Nat} {p : Int × Int} : Shp (n + 1) (numV p) := shp_tup fun d hd => by
  rcases List.mem_cons.mp hd with rfl | hd
  · exact shp_int
  · rcases List.mem_cons.mp hd with rfl | hd
    · exact shp_int
    · cases hd
/-- the divisor by which n / m is brought to lowest terms, m's sign with it -/
def dvs (n m : Int) : Int := if m < 0 then -(Nat.gcd n.natAbs m.natAbs : Nat) else (Nat.gcd n.natAbs m.natAbs : Nat)
def nrm (n m : Int) : Int × Int := (n.fdiv (dvs n m), m.fdiv (dvs n m))
theorem dvs_abs (n m : Int) : (dvs n m).natAbs = Nat.gcd n.natAbs m.natAbs := by
  unfold dvs
  split <;> omega
theorem dvs_ne {n m : Int} (h : m ≠ 0) : dvs n m ≠ 0 := by
  have := gcd_pos (n := n) h
  have e := dvs_abs n m
  omega
theorem dvs_dvdl (n m : Int) : dvs n m ∣ n := by
  rw [← Int.natAbs_dvd_natAbs, dvs_abs]
  exact Nat.gcd_dvd_left _ _
theorem dvs_dvdr (n m : Int) : dvs n m ∣ m := by
  rw [← Int.natAbs_dvd_natAbs, dvs_abs]
  exact Nat.gcd_dvd_right _ _
theorem fdiv_of_dvd {a b : Int} (h : b ∣ a) : a.fdiv b * b = a := Int.fdiv_mul_cancel h
theorem nrm_mul1 (n m : Int) : (nrm n m).1 * dvs n m = n := fdiv_of_dvd (dvs_dvdl n m)
theorem nrm_mul2 (n m : Int) : (nrm n m).2 * dvs n m = m := fdiv_of_dvd (dvs_dvdr n m)
theorem nrm_pos {n m : Int} (h : m ≠ 0) : 0 < (nrm n m).2 := by
  have e := nrm_mul2 n m
  have hd := dvs_ne (n := n) h
  by_cases hm : m < 0
  · have hd2 : dvs n m < 0 := by
      unfold dvs at hd ⊢
      rw [if_pos hm] at hd ⊢
      omega
    by_cases hz : 0 < (nrm n m).2
    · exact hz
    · have := Int.mul_nonneg_of_nonpos_of_nonpos (a := (nrm n m).2) (b := dvs n m) (by omega) (by omega)
      omega
  · have hd2 : 0 < dvs n m := by
      unfold dvs at hd ⊢
      rw [if_neg hm] at hd ⊢
      omega
    have hm2 : 0 < m := by omega
    exact Int.pos_of_mul_pos_left (by rw [e]; exact hm2) hd2
end DX

namespace DX
open PySem L2
def rIsNQ : R2 := fun x y H Q => y = .non ∧ Q (.bl (decide (x = .non))) H
def rNotNQ : R2 := fun x y H Q => y = .non ∧ Q (.bl (!decide (x = .non))) H
def rLenDQ : List V → Hp → VK → Prop := fun xs H Q => ∃ a kvs, xs = [V.ref a] ∧ Rd H a (.dK kvs) ∧ Q (.int kvs.length) H
def tTruQ (K : PySem.W.Frag) (ta : TE) : TT := fun σ H Q => ta σ H fun x H' => ∃ k, TruV K x H' k ∧ Q k H'
section
variable {X : Cx} {K : PySem.W.Frag}
theorem op_isNQ : OpR X (compareOp .Is) rIsNQ := op_isN
theorem op_notNQ : OpR X (compareOp .IsNot) rNotNQ := op_notN
theorem cr_lenDQ : CallR X (.builtin "len") rLenDQ := by
  intro pins s σ H xs us Q I r h
  obtain ⟨a, kvs, rfl, ha, q⟩ := h
  obtain ⟨u, rfl, ru⟩ := vals1 r
  cases ru
  exact d_len I ha fun t s' I' => ⟨.int kvs.length, H, I', ⟨t, rfl⟩, q⟩
theorem kpt_truth {a : Expr} {ta : TE} (ha : PE X a ta) (he : ∀ whole, isTrue a X.env whole = (do let v ← whole; standAt a.pos; holding [v] (truthy v))) (hK : X.K = K := by rfl) : PT X a (tTruQ K ta) := by subst hK; exact pt_truth ha he
theorem kpi_zip {e e2 : Expr} {ta : TA} {p pos tpos : Pos} {elts : List Expr} {kk : Nat} (hg : Gl X "zip") (hm : X.mg "zip" = none) (ha : PA X [e, e2] ta) (hK : X.K = K := by rfl)
    (hs : starEach [e, e2] X.env = (false, eval e X.env) :: starEach [e2] X.env := by rfl) (hpl : (backTo pos (starEach [e2] X.env)).any (·.1) = false := by rfl) : PI X (.Tuple elts kk tpos) (.Call (.Name "zip" p) [e, e2] [] pos) (iZip K ta) := by subst hK; exact pi_zip hg hm ha hs hpl
theorem kpi_enum {e : Expr} {ta : TA} {p pos tpos : Pos} {elts : List Expr} {kk : Nat} (hg : Gl X "enumerate") (hm : X.mg "enumerate" = none) (ha : PA X [e] ta) (hK : X.K = K := by rfl) (hs : starEach [e] X.env = [(false, eval e X.env)] := by rfl) :
    PI X (.Tuple elts kk tpos) (.Call (.Name "enumerate" p) [e] [] pos) (iEnum K ta) := by subst hK; exact pi_enum hg hm ha hs
end
section
variable {K : PySem.W.Frag} {δ δ' : List SV} {ta tb te : TE} {c : TT} {t u : TS} {d x y : D} {ds es : List D} {E : EndsD}
def isNone : D → Bool
  | .none => true
  | _ => false
theorem dq_none {H : Hp} {v : V} (h : Dq K H v d) : decide (v = .non) = isNone d := by
  cases h with
  | non => rfl
  | _ => exact decide_eq_false fun z => nomatch z
theorem ed_isN (h : ED K ta δ d) : ED K (tOp rIsNQ ta (tC .non)) δ (.bool (isNone d)) := fun B0 H0 B H σ Q S q =>
  h B0 H0 B H σ _ S fun v B1 H1 s1 a => ⟨rfl, by rw [dq_none a]; exact q _ B1 H1 s1 (.bl _)⟩
theorem ed_notN (h : ED K ta δ d) : ED K (tOp rNotNQ ta (tC .non)) δ (.bool (!isNone d)) := fun B0 H0 B H σ Q S q =>
  h B0 H0 B H σ _ S fun v B1 H1 s1 a => ⟨rfl, by rw [dq_none a]; exact q _ B1 H1 s1 (.bl _)⟩
/-- truth -/
def truD : D → Option Bool
  | .none => some false
  | .bool b => some b
  | .int i => some (i != 0)
  | .list ds => some (!ds.isEmpty)
  | .tuple ds => some (!ds.isEmpty)
  | _ => none
theorem emp_len {α β : Type} {xs : List α} {ys : List β} (h : xs.length = ys.length) : xs.isEmpty = ys.isEmpty := by
  cases xs <;> cases ys <;> first | rfl | (simp at h)
theorem et_truth {b : Bool} (h : ED K te δ d) (e : truD d = some b) : ET K (tTruQ K te) δ b := fun B0 H0 B H σ Q S q =>
  h B0 H0 B H σ _ S fun v B1 H1 s1 a => by
    refine ⟨b, ?_, q B1 H1 s1⟩
    cases a with
    | non => cases e; rfl
    | bl c => cases e; rfl
    | int i => cases e; rfl
    | str z => cases e
    | lst hs hA =>
      cases e
      exact .inl ⟨_, s1.bh.seq hs, by rw [emp_len hA.len]⟩
    | tup hs hA =>
      cases e
      exact .inr (.inl ⟨_, sqT_up s1.bh hs, by rw [emp_len hA.len]⟩)
    | dct hs hA => cases e
/-- len of a dict -/
theorem ed_lenD {kvs : List (D × D)} (h : ED K te δ (.dict kvs)) : ED K (tCB rLenDQ (tCons te tNil)) δ (.int kvs.length) :=
  ed_cb (ea_cons h ea_nil) fun B H vs Q bh a q => by
    obtain ⟨v, rfl, b⟩ := a.one
    cases b with
    | dct hs hA => exact ⟨_, _, rfl, rd_up bh hs, q _ B H (.refl bh) (by rw [hA.len]; exact .int _)⟩
/-- a range's item, two lists at once, the items with their places -/
theorem stp_tup {B H : Hp} {T : Addr} {vs : List V} (bh : Same B H) (n : H T = none) : Stp B H (upd B T (.tup vs)) (upd H T (.tup vs)) := .new bh n
def zipD (ds es : List D) : List D := (ds.zip es).map fun p => .tuple [p.1, p.2]
theorem ei_zip (h : ED K ta δ (.list ds)) (h' : ED K tb δ (.list es)) : EI K (iZip K (tCons ta (tCons tb tNil))) δ (zipD ds es) := fun B0 H0 B H σ R S q =>
  h B0 H0 B H σ _ S fun v B1 H1 s1 a => h' B0 H0 B1 H1 σ _ (S.step s1) fun w B2 H2 s2 b => by
    cases a with
    | lst hs hA =>
      cases b with
      | lst ks kA =>
        have hA2 := DqAll.up s2.bb _ _ hA
        have hs2 := s2.bb.seq hs
        refine ⟨_, _, _, _, rfl, s2.bh.seq hs2, s2.bh.seq ks, q _ B2 H2 (s1.trans s2) fun B H i e1 e2 => ⟨fun hi => ?_, fun hi => ?_⟩⟩
        · have hl : i < (ds.zip es).length := by
            unfold zipD at hi
            rwa [List.length_map] at hi
          rw [List.length_zip] at hl
          obtain ⟨x, g1, g2⟩ := hA2.get (List.getElem?_eq_getElem (show i < ds.length by omega))
          obtain ⟨y, k1, k2⟩ := kA.get (List.getElem?_eq_getElem (show i < es.length by omega))
          refine ⟨⟨_, _, x, y, (e1.trans e2).seq hs2, (e1.trans e2).seq ks, g1, k1⟩, fun z H' yl => ?_⟩
          obtain ⟨T, x', y', rfl, nT, rfl, f1, f2⟩ := yl
          have ex := (f1 _ ((e1.trans e2).seq hs2)).symm.trans g1
          have ey := (f2 _ ((e1.trans e2).seq ks)).symm.trans k1
          cases ex; cases ey
          have sn := same_new (o := .tup [x, y]) (e2.free nT)
          refine ⟨upd B T (.tup [x, y]), _, .new e2 nT, ?_, .tup (.inl (.inl upd_same)) (.cons (Dq.up (e1.trans sn) _ _ g2) (.cons (Dq.up (e1.trans sn) _ _ k2) .nil))⟩
          unfold zipD
          have h1 : i < ds.length := by omega
          have h2 : i < es.length := by omega
          have hz : (ds.zip es)[i]? = some (ds[i], es[i]) := by
            rw [List.getElem?_zip_eq_some]
            exact ⟨List.getElem?_eq_getElem h1, List.getElem?_eq_getElem h2⟩
          rw [List.getElem?_map, hz]
          rfl
        · refine ⟨_, _, (e1.trans e2).seq hs2, (e1.trans e2).seq ks, ?_⟩
          unfold zipD at hi
          rw [List.length_map, List.length_zip] at hi
          rw [hA2.len, kA.len]
          omega
def enumD (ds : List D) : List D := (List.range ds.length).map fun i => .tuple [.int (i : Nat), ds.getD i .none]
theorem ei_enum (h : ED K ta δ (.list ds)) : EI K (iEnum K (tCons ta tNil)) δ (enumD ds) := fun B0 H0 B H σ R S q =>
  h B0 H0 B H σ _ S fun v B1 H1 s1 a => by
    cases a with
    | lst hs hA =>
      refine ⟨_, _, rfl, s1.bh.seq hs, q _ B1 H1 s1 fun B H i e1 e2 => ⟨fun hi => ?_, fun hi => ?_⟩⟩
      · have hl : i < ds.length := by
          unfold enumD at hi
          rwa [List.length_map, List.length_range] at hi
        obtain ⟨x, g1, g2⟩ := hA.get (List.getElem?_eq_getElem hl)
        refine ⟨⟨_, x, (e1.trans e2).seq hs, g1⟩, fun z H' yl => ?_⟩
        obtain ⟨T, x', rfl, nT, rfl, f1⟩ := yl
        have ex := (f1 _ ((e1.trans e2).seq hs)).symm.trans g1
        cases ex
        have sn := same_new (o := .tup [.int (i : Nat), x]) (e2.free nT)
        refine ⟨upd B T (.tup [.int (i : Nat), x]), _, .new e2 nT, ?_, .tup (.inl (.inl upd_same)) (.cons (.int _) (.cons (Dq.up (e1.trans sn) _ _ g2) .nil))⟩
        unfold enumD
        rw [List.getElem?_map, List.getElem?_range hl]
        show some (PyData.tuple [.int (i : Nat), ds.getD i .none]) = _
        rw [List.getD_eq_getElem?_getD, List.getElem?_eq_getElem hl]
        rfl
      · refine ⟨_, (e1.trans e2).seq hs, ?_⟩
        unfold enumD at hi
        rw [List.length_map, List.length_range] at hi
        rw [hA.len]; omega
theorem tyes_true {σ : L2.St} {H : Hp} {Q : Bool → Hp → Prop} (h : Q true H) : tYes σ H Q := h
/-- a comprehension with a pair of names -/
theorem en_lc2 {α : Type} {xs : List α} {g1 g2 : α → D} {wi : TI} {i j : Nat} {f : α → D} (hij : i ≠ j) (hw : EI K wi δ (xs.map fun x => .tuple [g1 x, g2 x])) (hl : xs.length ≤ sizeLine)
    (he : ∀ x, x ∈ xs → ED K te ((((δ.set j .no).set i .no).set i (.val (g1 x))).set j (.val (g2 x))) (f x)) : EN K (tLc wi (gTup K 2 (gCons (gName i) (gCons (gName j) gNil))) tYes te [i, j]) δ (xs.map f) := fun B0 H0 B H σ Q S q =>
  hw B0 H0 B H σ _ S fun J B1 H1 s1 yd L nL => by
    have S1 := S.step s1
    refine ⟨fun k m H' => m = xs.length - k ∧ k ≤ xs.length ∧ ∃ B' acc, Sd K B1 H0 B' H' σ δ ∧ B' L = none ∧ H' L = some (.lst acc) ∧ DqAll K B' acc ((xs.take k).map f) ∧ Stp B1 H1 B' H', ⟨_, rfl, Nat.zero_le _, B1, [], ?_, s1.bh.free nL, upd_same, ?_, .newOwn s1.bh nL⟩, ?_⟩
    · exact (S1.past S1.hist.bb (Same.refl _)).step (.newOwn s1.bh nL)
    · rw [List.take_zero]; exact .nil
    rintro k m H' ⟨rfl, hk, B', acc, S', bL, hL, hA, sp⟩
    obtain ⟨y1, y2⟩ := yd B' H' k S'.hist.bb S'.hist.bh
    by_cases hlt : k < xs.length
    · obtain ⟨go, yy⟩ := y1 (by rw [List.length_map]; exact hlt)
      refine .inr ⟨go, fun H'' => ∃ B'' acc, Sd K B1 H0 B'' H'' σ δ ∧ B'' L = none ∧ H'' L = some (.lst acc) ∧ DqAll K B'' acc ((xs.take (k + 1)).map f) ∧ Stp B1 H1 B'' H'', fun H'' z => ⟨xs.length - (k + 1), by omega, rfl, hlt, z⟩, fun x H2 yl => ?_⟩
      obtain ⟨B2, d', s2, ed', dp⟩ := yy x H2 yl
      have ed : xs[k]? = some xs[k] := List.getElem?_eq_getElem hlt
      have eg : d' = .tuple [g1 xs[k], g2 xs[k]] := by
        rw [List.getElem?_map, ed] at ed'
        exact (Option.some.inj ed').symm
      subst eg
      have hm : xs[k] ∈ xs := List.getElem_mem hlt
      have hLne : H' L ≠ none := by rw [hL]; exact fun z => nomatch z
      have S2 := S'.step s2
      cases dp with
      | tup hs hA2 =>
        obtain ⟨v1, v2, rfl, a1, a2⟩ := hA2.two
        have S3 : Sd K B1 H0 B2 H2 ((((σ.set j none).set i none).set i (some v1)).set j (some v2)) ((((δ.set j .no).set i .no).set i (.val (g1 xs[k]))).set j (.val (g2 xs[k]))) := (((S2.forget (i := j) (o := none)).forget (i := i) (o := none)).setVal a1).setVal a2
        refine ⟨_, _, rfl, sqT_up s2.bh hs, rfl, v1, [v2], rfl, v2, [], rfl, rfl, ?_, ?_⟩
        · show ((((((σ.set j none).set i none).set i (some v1)).set j (some v2)).set j none).set i none) = (σ.set j none).set i none
          rw [List.set_set, List.set_set, List.set_comm _ _ hij, List.set_set, List.set_set]
        refine tyes_true ?_
        dsimp only
        rw [if_pos rfl]
        refine he _ hm B1 H0 B2 H2 _ _ S3 fun v B4 H4 s4 dv => ?_
        have st := s2.trans s4
        have hL4 : H4 L = some (.lst acc) := st.hh _ _ hL
        have bL4 : B4 L = none := st.fr L hLne bL
        have hA4 := DqAll.up st.bb _ _ hA
        refine ⟨acc, hL4, ?_, B4, acc ++ [v], ?_, bL4, upd_same, ?_, ?_⟩
        · have h1 := hA.len
          rw [List.length_map, List.length_take] at h1
          omega
        · have S4 := (S'.step st)
          refine ⟨⟨S4.hist.bb, fun a o ea => ?_, fun a o ea => ?_, S4.hist.fr⟩, S4.len, fun j z ej => ?_, S4.apart⟩
          · have : a ≠ L := fun z => by subst z; rw [bL4] at ea; cases ea
            rw [upd_ne this]; exact S4.hist.bh _ _ ea
          · have : a ≠ L := fun z => by
              subst z
              have := S1.hist.hh _ _ ea
              rw [nL] at this; cases this
            rw [upd_ne this]; exact S4.hist.hh _ _ ea
          · obtain ⟨o, eo, ok⟩ := S4.ok j z ej
            refine ⟨o, eo, ?_⟩
            cases z with
            | no => exact True.intro
            | val d => exact ok
            | own es =>
              obtain ⟨pp, vs, e1, e2, e3, e4, e5⟩ := ok
              have hne : pp ≠ L := fun z => by
                subst z
                obtain ⟨o', eo', ok'⟩ := S1.ok j _ ej
                obtain ⟨pp', vs', f1, f2, _⟩ := ok'
                rw [eo] at eo'; cases eo'
                rw [e1] at f1; cases f1
                rw [nL] at f2; cases f2
              exact ⟨pp, vs, e1, by rw [upd_ne hne]; exact e2, e3, e4, e5⟩
        · rw [List.take_add_one, ed, List.map_append]
          exact hA4.app (.cons dv .nil)
        · have sq := sp.trans st
          refine ⟨sq.bb, fun a o ea => ?_, fun a o ea => ?_, sq.fr⟩
          · have : a ≠ L := fun z => by subst z; rw [bL4] at ea; cases ea
            rw [upd_ne this]; exact sq.bh _ _ ea
          · have : a ≠ L := fun z => by subst z; rw [nL] at ea; cases ea
            rw [upd_ne this]; exact sq.hh _ _ ea
    · have e : k = xs.length := by omega
      subst e
      rw [List.take_length] at hA
      exact .inl ⟨y2 (by rw [List.length_map]), q L acc B' H' (s1.trans sp) (s1.hh.free nL) bL hL hA⟩
/-! ### dicts -/
theorem wp_newDict {i : Nat} (q : E.nx (δ.set i (.own (.m [])))) : WP K (tAsg tDNewK (gName i)) E δ := fun B0 H0 B H σ D L S => fun p np => by
  have s1 : Stp B H B (upd H p (.dK [])) := .newOwn S.hist.bh np
  refine L.nx _ _ B _ ((S.step s1).set (x := .own (.m [])) (show SlotOk K B (upd H p (.dK [])) H0 (some (.ref p)) (.own (.m [])) from ⟨p, .dK [], rfl, upd_same, S.hist.bh.free np, S.hist.hh.free np, [], rfl, .nil⟩) fun es _ j pp es' _ e1 e2 e3 => ?_) q
  cases e1
  obtain ⟨p', vs', a1, a2, _⟩ := S.slotObj e2
  rw [e3] at a1; cases a1
  rw [np] at a2; cases a2
theorem dqkv_app {B : Hp} : ∀ {vs ws : List (Key × V)} {ds es : List (D × D)}, DqKv K B vs ds → DqKv K B ws es → DqKv K B (vs ++ ws) (ds ++ es)
  | _, _, [], _, h, h' => by cases h; exact h'
  | _, _, d :: ds, _, h, h' => by
    cases h with
    | cons h1 h2 h3 => exact .cons h1 h2 (dqkv_app h3 h')
theorem dqkv_new {B : Hp} {k : Int} : ∀ {vs : List (Key × V)} {ds : List (D × D)}, DqKv K B vs ds → (∀ p ∈ ds, p.1 ≠ .int k) → valV vs (Sum.inl k) = none
  | _, [], h, _ => by cases h; rfl
  | _, d :: ds, h, hn => by
    cases h with
    | @cons key v vs e d' ds h1 h2 h3 =>
      rw [valV_neg, dqkv_new h3 fun p hp => hn p (List.mem_cons_of_mem _ hp)]
      intro z
      have z : key = Sum.inl k := z
      subst z
      exact hn _ (List.mem_cons_self ..) (by cases h1; rfl)
/-- d[k] = v, k a new int -/
theorem wp_dputNew {i : Nat} {k : Int} {kvs : List (D × D)} (e : δ[i]? = some (.own (.m kvs))) (hk : ED K tb δ (.int k)) (hv : ED K te δ d) (hn : ∀ p ∈ kvs, p.1 ≠ .int k) (hl : kvs.length < sizeLine) (q : E.nx (δ.set i (.own (.m (kvs ++ [(.int k, d)]))))) :
    WP K (sDPut (tVar i) tb te) E δ := fun B0 H0 B H σ D L S =>
  hv B0 H0 B H σ _ S fun v B1 H1 s1 a => by
    have S1 := S.step s1
    obtain ⟨p, vs, a1, hp, bp, h0, dp⟩ := S1.slotMap e
    refine ⟨_, a1, hk B0 H0 B1 H1 σ _ S1 fun w B2 H2 s2 b => ?_⟩
    cases Dq.int_inv b
    have S2 := S1.step s2
    obtain ⟨p', vs', a1', hp', bp', h0', dp'⟩ := S2.slotMap e
    rw [a1] at a1'; cases a1'
    refine ⟨p, _, rfl, DPut.k (k := Sum.inl k) hp' (by rw [dp'.len]; exact hl), ?_⟩
    rw [putK_new _ (dqkv_new dp' hn)]
    exact L.nx _ _ B2 _ (own_upd (yo := .m _) S2 e a1 bp' h0' ⟨_, rfl, dqkv_app dp' (.cons (.int _) (Dq.up s2.bb _ _ a) .nil)⟩) q
theorem Sd.freezeD {B0 H0 B H : Hp} {σ : L2.St} {i : Nat} {kvs : List (D × D)} (S : Sd K B0 H0 B H σ δ) (e : δ[i]? = some (.own (.m kvs))) : ∃ B', Sd K B0 H0 B' H σ (δ.set i (.val (.dict kvs))) ∧ Same B B' := by
  obtain ⟨p, vs, a1, hp, bp, h0, dp⟩ := S.slotMap e
  obtain ⟨k1, k2⟩ := Stp.know (o := .dK vs) S.hist.bh bp hp
  refine ⟨upd B p (.dK vs), ⟨⟨S.hist.bb.trans k1, k2, S.hist.hh, fun a q z => ?_⟩, by rw [List.length_set]; exact S.len, fun j s ej => ?_, fun j k q es fs n e1 e2 e3 e4 => ?_⟩, k1⟩
  · have : a ≠ p := fun e => by subst e; exact q h0
    rw [upd_ne this]; exact S.hist.fr a q z
  · rcases get_set ej with ⟨rfl, rfl⟩ | ⟨hne, ej⟩
    · exact ⟨_, a1, .ref p, rfl, .dct (.inl upd_same) (DqKv.up k1 _ _ dp)⟩
    · obtain ⟨o, eo, ok⟩ := S.ok j s ej
      refine ⟨o, eo, ?_⟩
      cases s with
      | no => exact True.intro
      | val d => obtain ⟨v, e1, e2⟩ := ok; exact ⟨v, e1, Dq.up k1 _ _ e2⟩
      | own es =>
        obtain ⟨pp, ws, e1, e2, e3, e4, e5⟩ := ok
        have hne2 : pp ≠ p := fun z => by
          subst z
          subst e1
          exact S.apart i j pp (.m kvs) es hne e ej a1 eo
        exact ⟨pp, ws, e1, e2, by rw [upd_ne hne2]; exact e3, e4, e5.up k1⟩
  · rcases get_set e1 with ⟨_, z⟩ | ⟨_, e1⟩
    · cases z
    · rcases get_set e2 with ⟨_, z⟩ | ⟨_, e2⟩
      · cases z
      · exact S.apart j k q es fs n e1 e2 e3 e4
theorem wp_freezeD (i : Nat) {kvs : List (D × D)} (e : δ[i]? = some (.own (.m kvs))) (h : WP K t E (δ.set i (.val (.dict kvs)))) : WP K t E δ := fun B0 H0 B H σ D L S => by
  obtain ⟨B', S', _⟩ := S.freezeD e
  exact h B0 H0 B' H σ D L S'
end
/-- a def by a promise of some datum -/
theorem ok_wpP {P : Program} {w : World} {K : PySem.W.Frag} {mg : Str → Option Value} {base : Heap} {x qual : Str} {st : Stmt} {f : Addr} {fd : FuncData} {N ps : List Str} {k : Nat} {Pre : List D → Prop} {Post : List D → D → Prop} (F : Fun K x qual st f fd) (S : FnScope N ps (defScope st)) (len : ∀ ds, Pre ds → ds.length = ps.length)
    (hb : ∀ (cdv : Value) (A : Around) (outer : List Env) (s : Shared) (H : Hp) (E : XK), Room k (A.deeper (PyProof.Rows.envOfC qual (defScope st) s.heap.objs.size f cdv)) →
      ∃ t, PSs (cxOf CX0 P w K mg base N qual (defScope st) f cdv A outer s H E).nox (defBody st) t ∧ ∀ ds, Pre ds → WP K t { nx := fun _ => Post ds .none, rt := fun d' => Post ds d' } (startD N ds)) : FnOk P w K mg base CX0 (k + 1) f fd ps (spP K Pre Post) := by
  refine F.ok S (fun vs H Q E h => ?_) (fun cdv A outer s H vs Q E hr h => ?_)
  · obtain ⟨B, ds, r, bh, a, _⟩ := h
    rw [a.len]; exact len ds r
  · obtain ⟨t, ht, q⟩ := hb cdv A outer s H E hr
    refine ⟨t, ht, ?_⟩
    obtain ⟨B, ds, r, bh, a, hq⟩ := h
    refine q ds r B H B H _ _ ⟨fun σ' H' B' δ' S' e => ?_, fun v B' H' d' hh dv e => ?_, fun _ _ _ _ _ z => z.elim, fun _ _ _ _ _ z => z.elim⟩ (start_sd bh a)
    · exact hq _ B' H' _ ⟨S'.hist.bb, S'.hist.bh, S'.hist.hh, S'.hist.fr⟩ .non e
    · exact hq v B' H' _ ⟨hh.bb, hh.bh, hh.hh, hh.fr⟩ dv e
end DX

namespace DX
open PySem L2
/-- a walk over a list or a tuple -/
def iSeq (K : PySem.W.Frag) (tl : TE) : TI := fun σ H R => iList K tl σ H R ∨ iTup K tl σ H R
theorem kpi_seq {X : Cx} {K : PySem.W.Frag} {tg l : Expr} {tl : TE} (hl : PE X l tl) (hK : X.K = K := by rfl) : PI X tg l (iSeq K tl) := by
  subst hK
  exact ⟨fun pins s σ H R I h => h.elim (fun h => (pi_list (tg := tg) hl).run pins s σ H R I h) fun h => (pi_tup (tg := tg) hl).run pins s σ H R I h⟩
theorem dqall_erase {K : PySem.W.Frag} {B : Hp} : ∀ (k : Nat) {vs : List V} {ds : List D}, DqAll K B vs ds → DqAll K B (vs.eraseIdx k) (ds.eraseIdx k)
  | _, _, [], h => by cases h; exact .nil
  | 0, _, d :: ds, h => by
    cases h with
    | cons h1 h2 => exact h2
  | k + 1, _, d :: ds, h => by
    cases h with
    | cons h1 h2 => exact .cons h1 (dqall_erase k h2)
section
variable {K : PySem.W.Frag} {δ δ' : List SV} {ta tb te : TE} {c : TT} {t u : TS} {d x y : D} {ds es : List D} {E : EndsD}
theorem ei_seq (h : ED K te δ x) (e : itemsD x = some ds) : EI K (iSeq K te) δ ds := by
  cases x with
  | list xs =>
    have e : xs = ds := Option.some.inj e
    subst e
    exact fun B0 H0 B H σ R S q => .inl (ei_list h B0 H0 B H σ R S q)
  | tuple xs =>
    have e : xs = ds := Option.some.inj e
    subst e
    exact fun B0 H0 B H σ R S q => .inr (ei_tup h B0 H0 B H σ R S q)
  | _ => cases e
def Scal : D → Prop
  | .none => True
  | .bool _ => True
  | .int _ => True
  | _ => False
theorem Scal.dq {B B' : Hp} {v : V} (s : Scal d) (h : Dq K B v d) : Dq K B' v d := by
  cases h with
  | non => exact .non
  | bl b => exact .bl b
  | int i => exact .int i
  | str x => exact .str x
  | lst _ _ => exact s.elim
  | tup _ _ => exact s.elim
  | dct _ _ => exact s.elim
/-- an owned list is read by an expression whose datum is no list -/
theorem ep_thaw {i : Nat} {P : D → Prop} (e : δ[i]? = some (.own (.l ds))) (h : EP K te (δ.set i (.val (.list ds))) P) (hs : ∀ d, P d → Scal d) : EP K te δ P := fun B0 H0 B H σ Q S q => by
  obtain ⟨p, vs, a1, hp, bp, h0, dp⟩ := S.slotOwn e
  obtain ⟨k1, k2⟩ := Stp.know (o := .lst vs) S.hist.bh bp hp
  have S2 := S.freezeAt e a1 hp bp h0 dp
  refine h B0 H0 _ H σ Q S2 fun v B2 H2 d s2 dv pd => ?_
  refine q v (fun a => if a = p then none else B2 a) H2 d ⟨fun a o ea => ?_, fun a o ea => ?_, s2.hh, fun a ha hb => ?_⟩ ((hs d pd).dq dv) pd
  · have : a ≠ p := fun z => by subst z; rw [bp] at ea; cases ea
    rw [if_neg this]
    exact s2.bb _ _ (k1 _ _ ea)
  · by_cases z : a = p
    · rw [if_pos z] at ea; cases ea
    · rw [if_neg z] at ea; exact s2.bh _ _ ea
  · by_cases z : a = p
    · rw [if_pos z]
    · rw [if_neg z]
      exact s2.fr a ha (by rw [upd_ne z]; exact hb)
/-- a = b, b's list is owned: b is forgotten -/
theorem wp_move {i j : Nat} {xo : OD} (hij : i ≠ j) (e : δ[j]? = some (.own xo)) (q : E.nx ((δ.set j .no).set i (.own xo))) : WP K (tAsg (tVar j) (gName i)) E δ := fun B0 H0 B H σ D L S => by
  obtain ⟨p, u, a1, hp, bp, h0, rep⟩ := S.slotObj e
  refine ⟨_, a1, L.nx _ H B _ ?_ q⟩
  have e1 : σ.set i (some (.ref p)) = (σ.set j (some (.ref p))).set i (some (.ref p)) := by
    have hj : j < σ.length := (List.getElem?_eq_some_iff.mp a1).1
    have : σ.set j (some (.ref p)) = σ := by
      apply List.ext_getElem?
      intro k
      by_cases hk : j = k
      · subst hk
        rw [List.getElem?_set_self hj, a1]
      · rw [List.getElem?_set_ne hk]
    rw [this]
  rw [e1]
  refine (S.forget (i := j) (o := some (.ref p))).set (x := .own xo) (show SlotOk K B H H0 (some (.ref p)) (.own xo) from ⟨p, u, rfl, hp, bp, h0, rep⟩) fun ds _ k q' es hk e2 e3 e4 => ?_
  cases e2
  rcases get_set e3 with ⟨_, z⟩ | ⟨hjk, e3⟩
  · cases z
  · rw [List.getElem?_set_ne hjk] at e4
    exact S.apart j k p xo es hjk e e3 a1 e4
/-- y = xs.pop(k), xs owned -/
theorem wp_popAt {i j : Nat} {n : Int} {k : Nat} (e : δ[i]? = some (.own (.l ds))) (hij : i ≠ j) (hn : ED K te δ (.int n)) (hk : n = (k : Nat)) (hkl : k < 2 ^ 62) (hd : ds[k]? = some d) (q : E.nx ((δ.set i (.own (.l (ds.eraseIdx k)))).set j (.val d))) :
    WP K (tAsg (tBM K "list" rPopAt (tVar i) (tCons te tNil)) (gName j)) E δ := fun B0 H0 B H σ D L S => by
  obtain ⟨p, vs, a1, hp, bp, h0, dp⟩ := S.slotOwn e
  refine ⟨_, a1, .inl ⟨rfl, vs, .inl (.inl hp)⟩, hn B0 H0 B H σ _ S fun v B1 H1 s1 a => ?_⟩
  cases Dq.int_inv a
  have S1 := S.step s1
  obtain ⟨p', vs', a1', hp', bp', h0', dp'⟩ := S1.slotOwn e
  rw [a1] at a1'; cases a1'
  obtain ⟨y, hy, dy⟩ := dp'.get hd
  subst hk
  have hlt : k < vs'.length := (List.getElem?_eq_some_iff.mp hy).1
  refine ⟨p, vs', (k : Nat), k, y, rfl, rfl, hp', by omega, by omega, PySem.seqIndex_of (by omega) (by omega), hy, L.nx _ _ B1 _ ?_ q⟩
  have S2 := own_upd (yo := .l (ds.eraseIdx k)) (u := .lst (vs'.eraseIdx k)) S1 e a1 bp' h0' ⟨_, rfl, ?_⟩
  · exact S2.setVal dy
  · exact dqall_erase k dp'
end
end DX
namespace DX
open PySem L2
/-- a promise with a ghost -/
def spG {G : Type} (K : PySem.W.Frag) (Pre : G → List D → Prop) (Post : G → D → Prop) : Sp := fun vs H Q _ => ∃ B ds g, Pre g ds ∧ Same B H ∧ DqAll K B vs ds ∧ ∀ v B' H' d, Stp B H B' H' → Dq K B' v d → Post g d → Q v H'
theorem ep_callG {G : Type} {K : PySem.W.Frag} {δ : List SV} {ds : List D} {ta : TA} {Pre : G → List D → Prop} {Post : G → D → Prop} {X : XK} (g : G) (h : EA K ta δ ds) (r : Pre g ds) : EP K (tCall (spG K Pre Post) [] X ta) δ (Post g) := fun B0 H0 B H σ Q S q =>
  h B0 H0 B H σ _ S fun vs B1 H1 s1 a => ⟨B1, ds, g, r, s1.bh, by rw [List.append_nil]; exact a, fun v B' H' d s2 b p => q v B' H' d (s1.trans s2) b p⟩
theorem ok_wpG {G : Type} {P : Program} {w : World} {K : PySem.W.Frag} {mg : Str → Option Value} {base : Heap} {x qual : Str} {st : Stmt} {f : Addr} {fd : FuncData} {N ps : List Str} {k : Nat} {Pre : G → List D → Prop} {Post : G → D → Prop} (F : Fun K x qual st f fd) (S : FnScope N ps (defScope st)) (len : ∀ g ds, Pre g ds → ds.length = ps.length)
    (hb : ∀ (cdv : Value) (A : Around) (outer : List Env) (s : Shared) (H : Hp) (E : XK), Room k (A.deeper (PyProof.Rows.envOfC qual (defScope st) s.heap.objs.size f cdv)) →
      ∃ t, PSs (cxOf CX0 P w K mg base N qual (defScope st) f cdv A outer s H E).nox (defBody st) t ∧ ∀ g ds, Pre g ds → WP K t { nx := fun _ => Post g .none, rt := fun d' => Post g d' } (startD N ds)) : FnOk P w K mg base CX0 (k + 1) f fd ps (spG K Pre Post) := by
  refine F.ok S (fun vs H Q E h => ?_) (fun cdv A outer s H vs Q E hr h => ?_)
  · obtain ⟨B, ds, g, r, bh, a, _⟩ := h
    rw [a.len]; exact len g ds r
  · obtain ⟨t, ht, q⟩ := hb cdv A outer s H E hr
    refine ⟨t, ht, ?_⟩
    obtain ⟨B, ds, g, r, bh, a, hq⟩ := h
    refine q g ds r B H B H _ _ ⟨fun σ' H' B' δ' S' e => ?_, fun v B' H' d' hh dv e => ?_, fun _ _ _ _ _ z => z.elim, fun _ _ _ _ _ z => z.elim⟩ (start_sd bh a)
    · exact hq _ B' H' _ ⟨S'.hist.bb, S'.hist.bh, S'.hist.hh, S'.hist.fr⟩ .non e
    · exact hq v B' H' _ ⟨hh.bb, hh.bh, hh.hh, hh.fr⟩ dv e
/-- for i, x in enumerate(..) -/
theorem wp_forE {α : Type} {xs : List α} {g : α → D} {K : PySem.W.Frag} {δ : List SV} {t : TS} {E : EndsD} {wi : TI} {i j : Nat} (I : Nat → List SV → Prop) (hw : EI K wi δ (enumD (xs.map g))) (h0 : I 0 δ)
    (hs : ∀ k x δ', xs[k]? = some x → I k δ' → WP K t { E with nx := I (k + 1), ct := I (k + 1), bk := E.nx } ((δ'.set i (.val (.int (k : Nat)))).set j (.val (g x)))) (hd : ∀ δ', I xs.length δ' → E.nx δ') : WP K (tFor wi (gTup K 2 (gCons (gName i) (gCons (gName j) gNil))) t) E δ := by
  have hl : (enumD (xs.map g)).length = xs.length := by unfold enumD; rw [List.length_map, List.length_range, List.length_map]
  refine wp_for I hw h0 (fun k d δ' e ik => ?_) (by rw [hl]; exact hd)
  have hk : k < xs.length := by
    have := (List.getElem?_eq_some_iff.mp e).1
    rwa [hl] at this
  unfold enumD at e
  rw [List.getElem?_map, List.getElem?_range (by rw [List.length_map]; exact hk)] at e
  have e2 : d = .tuple [.int (k : Nat), g xs[k]] := by
    have := Option.some.inj e
    rw [← this]
    show PyData.tuple [.int (k : Nat), (xs.map g).getD k .none] = _
    rw [List.getD_eq_getElem?_getD, List.getElem?_map, List.getElem?_eq_getElem hk]
    rfl
  subst e2
  exact ⟨_, gd_tup (gds_cons gd_name (gds_cons gd_name gds_nil)) rfl, hs k xs[k] δ' (List.getElem?_eq_getElem hk) ik⟩
theorem zipD_ints (a b : List Int) : zipD (a.map PyData.int) (b.map PyData.int) = (a.zip b).map fun x => .tuple [.int x.1, .int x.2] := by
  unfold zipD
  rw [List.zip_map, List.map_map]
  rfl
def listI (x : List Int) : D := .list (x.map PyData.int)
end DX

namespace DX
open PySem L2
/-- locked, or locked already -/
def tLk (t : TS) : TS := fun D σ H => tLock t D σ H ∨ t D σ H
theorem ps_lk {X : Cx} {st : Stmt} {t : TS} (h : PS X st t) : PS X st (tLk t) := ⟨fun pins s σ H D I w => w.elim (fun w => (ps_lock h).run pins s σ H D I w) fun w => h.run pins s σ H D I w⟩
section
variable {K : PySem.W.Frag} {B : Hp} {d : Addr} {od : Obj} {ks : List (Key × V)}
theorem rd_frz (hd : B d = some (.dK ks)) {a : Addr} {w : HO} (h : Rd B a w) : Rd (upd B d (.frz od (.dK ks))) a w := by
  by_cases e : a = d
  · subst e
    rcases h with h | ⟨o, h⟩
    · rw [hd] at h
      cases h
      exact .inr ⟨od, upd_same⟩
    · rw [hd] at h; cases h
  · rcases h with h | ⟨o, h⟩
    · exact .inl (by rw [upd_ne e]; exact h)
    · exact .inr ⟨o, by rw [upd_ne e]; exact h⟩
theorem rd_thaw (hd : B d = some (.frz od (.dK ks))) {a : Addr} {w : HO} (hw : ∀ o x, w ≠ .frz o x) (h : Rd B a w) : Rd (upd B d (.dK ks)) a w := by
  by_cases e : a = d
  · subst e
    rcases h with h | ⟨o, h⟩
    · rw [hd] at h
      cases h
      exact absurd rfl (hw _ _)
    · rw [hd] at h
      cases h
      exact .inl upd_same
  · rcases h with h | ⟨o, h⟩
    · exact .inl (by rw [upd_ne e]; exact h)
    · exact .inr ⟨o, by rw [upd_ne e]; exact h⟩
theorem sqL_rd {B B' : Hp} {a : Addr} {xs : List V} (f : Rd B a (.lst xs) → Rd B' a (.lst xs)) (h : SqL K B a xs) : SqL K B' a xs := h.elim (fun h => .inl (f h)) .inr
theorem sqT_rd {B B' : Hp} {a : Addr} {xs : List V} (f : Rd B a (.tup xs) → Rd B' a (.tup xs)) (h : SqT K B a xs) : SqT K B' a xs := h.elim (fun h => .inl (f h)) .inr
/-- data under a change of what may be read -/
structure RdTo (B B' : Hp) : Prop where
  l : ∀ {a : Addr} {xs : List V}, Rd B a (.lst xs) → Rd B' a (.lst xs)
  t : ∀ {a : Addr} {xs : List V}, Rd B a (.tup xs) → Rd B' a (.tup xs)
  k : ∀ {a : Addr} {xs : List (Key × V)}, Rd B a (.dK xs) → Rd B' a (.dK xs)
end
end DX
namespace L2
open PySem DX
section
variable {K : PySem.W.Frag}
mutual
theorem Dq.rd {B B' : Hp} (e : RdTo B B') : ∀ (d : D) (v : V), Dq K B v d → Dq K B' v d
  | .none, _, h => by cases h; exact .non
  | .bool b, _, h => by cases h; exact .bl b
  | .int i, _, h => by cases h; exact .int i
  | .str x, _, h => by cases h; exact .str x
  | .list ds, _, h => by
    cases h with
    | lst hs ha => exact .lst (sqL_rd e.l hs) (DqAll.rd e ds _ ha)
  | .tuple ds, _, h => by
    cases h with
    | tup hs ha => exact .tup (sqT_rd e.t hs) (DqAll.rd e ds _ ha)
  | .dict ds, _, h => by
    cases h with
    | dct hs ha => exact .dct (e.k hs) (DqKv.rd e ds _ ha)
theorem DqAll.rd {B B' : Hp} (e : RdTo B B') : ∀ (ds : List D) (vs : List V), DqAll K B vs ds → DqAll K B' vs ds
  | [], _, h => by cases h; exact .nil
  | d :: ds, _, h => by
    cases h with
    | cons h1 h2 => exact .cons (Dq.rd e d _ h1) (DqAll.rd e ds _ h2)
theorem DqKv.rd {B B' : Hp} (e : RdTo B B') : ∀ (ds : List (D × D)) (vs : List (Key × V)), DqKv K B vs ds → DqKv K B' vs ds
  | [], _, h => by cases h; exact .nil
  | (f, d) :: ds, _, h => by
    cases h with
    | cons h1 h2 h3 => exact .cons (Dq.rd e f _ h1) (Dq.rd e d _ h2) (DqKv.rd e ds _ h3)
end
end
end L2
namespace DX
open PySem L2
section
variable {K : PySem.W.Frag} {B : Hp} {d : Addr} {od : Obj} {ks : List (Key × V)}
theorem OwnRep.rd {B B' : Hp} {o : HO} (e : RdTo B B') : ∀ {x : OD}, OwnRep K B o x → OwnRep K B' o x
  | .l ds, ⟨vs, a, b⟩ => ⟨vs, a, L2.DqAll.rd e ds _ b⟩
  | .m es, ⟨vs, a, b⟩ => ⟨vs, a, L2.DqKv.rd e es _ b⟩
theorem rdTo_frz (hd : B d = some (.dK ks)) : RdTo B (upd B d (.frz od (.dK ks))) := ⟨rd_frz hd, rd_frz hd, rd_frz hd⟩
theorem rdTo_thaw (hd : B d = some (.frz od (.dK ks))) : RdTo B (upd B d (.dK ks)) := ⟨rd_thaw hd (fun _ _ z => nomatch z), rd_thaw hd (fun _ _ z => nomatch z), rd_thaw hd (fun _ _ z => nomatch z)⟩
end
/-- the past, locked -/
def lockH (H0 : Hp) (d : Addr) (o : HO) : Hp := fun a => if a = d then (match H0 d with
  | none => none
  | some _ => some o) else H0 a
theorem lockH_ne {H0 : Hp} {d a : Addr} {o : HO} (h : a ≠ d) : lockH H0 d o a = H0 a := by unfold lockH; rw [if_neg h]
theorem lockH_none {H0 : Hp} {d a : Addr} {o : HO} (h : H0 a = none) : lockH H0 d o a = none := by
  unfold lockH
  by_cases e : a = d
  · subst e; rw [if_pos rfl, h]
  · rw [if_neg e]; exact h
theorem lockH_some {H0 : Hp} {d : Addr} {o x : HO} (h : lockH H0 d o d = some x) : x = o := by
  unfold lockH at h
  rw [if_pos rfl] at h
  cases e : H0 d with
  | none => rw [e] at h; cases h
  | some y => rw [e] at h; cases h; rfl
section
variable {K : PySem.W.Frag} {B0 H0 B H B' H' : Hp} {σ σ' : L2.St} {δ δ' : List SV} {d : Addr} {od : Obj} {ks : List (Key × V)}
theorem Sd.lock (S : Sd K B0 H0 B H σ δ) (hd : B d = some (.dK ks)) : Sd K (upd B d (.frz od (.dK ks))) (lockH H0 d (.frz od (.dK ks))) (upd B d (.frz od (.dK ks))) (upd H d (.frz od (.dK ks))) σ δ := by
  refine ⟨⟨Same.refl _, fun a o e => ?_, fun a o e => ?_, fun a q z => z⟩, S.len, fun i s ei => ?_, S.apart⟩
  · by_cases x : a = d
    · subst x; rw [upd_same] at e ⊢; exact e
    · rw [upd_ne x] at e ⊢; exact S.hist.bh _ _ e
  · by_cases x : a = d
    · subst x; rw [upd_same, lockH_some e]
    · rw [lockH_ne x] at e; rw [upd_ne x]; exact S.hist.hh _ _ e
  · obtain ⟨o, eo, ok⟩ := S.ok i s ei
    refine ⟨o, eo, ?_⟩
    cases s with
    | no => exact True.intro
    | val x => obtain ⟨v, e1, e2⟩ := ok; exact ⟨v, e1, L2.Dq.rd (rdTo_frz hd) _ _ e2⟩
    | own x =>
      obtain ⟨p, u, e1, e2, e3, e4, e5⟩ := ok
      have hp : p ≠ d := fun z => by subst z; rw [hd] at e3; cases e3
      exact ⟨p, u, e1, by rw [upd_ne hp]; exact e2, by rw [upd_ne hp]; exact e3, lockH_none e4, e5.rd (rdTo_frz hd)⟩
theorem Hist.unlock (h : Hist B0 H0 B H) (hd : B d = some (.dK ks)) (S : Hist (upd B d (.frz od (.dK ks))) (lockH H0 d (.frz od (.dK ks))) B' H') : B' d = some (.frz od (.dK ks)) ∧ H' d = some (.frz od (.dK ks)) ∧ Hist B0 H0 (upd B' d (.dK ks)) (upd H' d (.dK ks)) := by
  have b1 : B' d = some (.frz od (.dK ks)) := S.bb _ _ upd_same
  refine ⟨b1, S.bh _ _ b1, fun a o e => ?_, fun a o e => ?_, fun a o e => ?_, fun a q z => ?_⟩
  · have e2 := h.bb _ _ e
    by_cases x : a = d
    · subst x; rw [hd] at e2; rw [upd_same]; exact e2
    · rw [upd_ne x]; exact S.bb _ _ (by rw [upd_ne x]; exact e2)
  · by_cases x : a = d
    · subst x; rw [upd_same] at e ⊢; exact e
    · rw [upd_ne x] at e ⊢; exact S.bh _ _ e
  · by_cases x : a = d
    · subst x
      have e2 := h.hh _ _ e
      rw [h.bh _ _ hd] at e2
      rw [upd_same]; exact e2
    · rw [upd_ne x]; exact S.hh _ _ (by rw [lockH_ne x]; exact e)
  · have e2 := h.fr a q z
    have x : a ≠ d := fun x => by subst x; rw [hd] at e2; cases e2
    rw [upd_ne x]
    exact S.fr a (by rw [lockH_ne x]; exact q) (by rw [upd_ne x]; exact e2)
theorem Sd.unlock (h : Hist B0 H0 B H) (hd : B d = some (.dK ks)) (S : Sd K (upd B d (.frz od (.dK ks))) (lockH H0 d (.frz od (.dK ks))) B' H' σ' δ') : H' d = some (.frz od (.dK ks)) ∧ Sd K B0 H0 (upd B' d (.dK ks)) (upd H' d (.dK ks)) σ' δ' := by
  obtain ⟨b1, h1, hi⟩ := h.unlock hd S.hist
  refine ⟨h1, hi, S.len, fun i s ei => ?_, S.apart⟩
  obtain ⟨o, eo, ok⟩ := S.ok i s ei
  refine ⟨o, eo, ?_⟩
  cases s with
  | no => exact True.intro
  | val x => obtain ⟨v, e1, e2⟩ := ok; exact ⟨v, e1, L2.Dq.rd (rdTo_thaw b1) _ _ e2⟩
  | own x =>
    obtain ⟨p, u, e1, e2, e3, e4, e5⟩ := ok
    have hp : p ≠ d := fun z => by subst z; rw [b1] at e3; cases e3
    exact ⟨p, u, e1, by rw [upd_ne hp]; exact e2, by rw [upd_ne hp]; exact e3, by rw [lockH_ne hp] at e4; exact e4, e5.rd (rdTo_thaw b1)⟩
end
section
variable {K : PySem.W.Frag} {δ : List SV} {t : TS} {E : EndsD} {α : Type} {xs : List α} {g1 g2 : α → D}
/-- for k, v in d.items() -/
theorem wp_items {m i j : Nat} (I : Nat → List SV → Prop) (hv : ∀ n δ', I n δ' → δ'[m]? = some (.val (.dict (xs.map fun x => (g1 x, g2 x))))) (h0 : I 0 δ)
    (hs : ∀ k x δ', xs[k]? = some x → I k δ' → WP K t { E with nx := I (k + 1), ct := I (k + 1), bk := E.nx } ((δ'.set i (.val (g1 x))).set j (.val (g2 x)))) (hd : ∀ δ', I xs.length δ' → E.nx δ') :
    WP K (tLk (tFor (iItems (tVar m)) (gTup K 2 (gCons (gName i) (gCons (gName j) gNil))) t)) E δ := by
  -- the walk over a locked dict
  have walk : ∀ (B0 H0 B H : Hp) (σ : L2.St) (D : Ends) (a : Addr) (o : Obj) (ks : List (Key × V)), Lift K B0 H0 E D → Sd K B0 H0 B H σ δ → σ[m]? = some (some (.ref a)) → B a = some (.frz o (.dK ks)) → DqKv K B ks (xs.map fun x => (g1 x, g2 x)) →
      tFor (iItems (tVar m)) (gTup K 2 (gCons (gName i) (gCons (gName j) gNil))) t D σ H := fun B0 H0 B H σ D a o ks L S hm hB hkv => by
    have hkl : ks.length = xs.length := by rw [hkv.len, List.length_map]
    refine ⟨_, hm, a, o, ks, rfl, S.hist.bh _ _ hB, fun k n σ' H' => n = xs.length - k ∧ k ≤ xs.length ∧ ∃ B' δ', Sd K B H0 B' H' σ' δ' ∧ I k δ', ⟨_, rfl, Nat.zero_le _, B, δ, S.past S.hist.bb (Same.refl _), h0⟩, ?_⟩
    rintro k n σ' H' ⟨rfl, hk, B', δ', S', ik⟩
    have hH' : H' a = some (.frz o (.dK ks)) := S'.hist.bh _ _ (S'.hist.bb _ _ hB)
    by_cases hlt : k < xs.length
    · refine .inr ⟨⟨hH', by omega⟩, fun σ2 H2 => ∃ B2 δ2, Sd K B H0 B2 H2 σ2 δ2 ∧ I (k + 1) δ2, fun σ2 H2 ⟨B2, δ2, S2, i2⟩ => ⟨xs.length - (k + 1), by omega, rfl, hlt, B2, δ2, S2, i2⟩, fun x H2 yl => ?_⟩
      obtain ⟨T, kk, v, ek, rfl, nT, rfl⟩ := yl
      have item : ∀ (n : Nat) (vs : List (Key × V)) (es : List α), DqKv K B vs (es.map fun x => (g1 x, g2 x)) → ∀ kk v, vs[n]? = some (kk, v) → ∃ y, es[n]? = some y ∧ Dq K B (kV kk) (g1 y) ∧ Dq K B v (g2 y) := by
        intro n
        induction n with
        | zero =>
          intro vs es h kk v e
          cases es with
          | nil => cases h; cases e
          | cons y es =>
            cases h with
            | cons h1 h2 h3 => cases e; exact ⟨y, rfl, h1, h2⟩
        | succ n ih =>
          intro vs es h kk v e
          cases es with
          | nil => cases h; cases e
          | cons y es =>
            cases h with
            | cons h1 h2 h3 => exact ih _ es h3 kk v e
      obtain ⟨y, ey, d1, d2⟩ := item k ks xs hkv kk v ek
      have bn := S'.hist.bh.free nT
      have sn := same_new (o := .tup [kV kk, v]) bn
      have st : Stp B' H' (upd B' T (.tup [kV kk, v])) (upd H' T (.tup [kV kk, v])) := .new S'.hist.bh nT
      have S2 := S'.step st
      refine ⟨T, [kV kk, v], rfl, .inl (.inl upd_same), rfl, kV kk, [v], rfl, v, [], rfl, rfl, ?_⟩
      have S3 := (S2.setVal (i := i) (Dq.up (S'.hist.bb.trans sn) _ _ d1)).setVal (i := j) (Dq.up (S'.hist.bb.trans sn) _ _ d2)
      exact hs k y δ' ey ik B H0 _ _ _ _ ⟨fun σ4 H4 B4 δ4 S4 q => ⟨B4, δ4, S4, q⟩, fun v B4 H4 d' hh dv q => L.rt v B4 H4 d' (hh.back S.hist) dv q, fun σ4 H4 B4 δ4 S4 q => L.nx σ4 H4 B4 δ4 (S4.back S.hist) q, fun σ4 H4 B4 δ4 S4 q => ⟨B4, δ4, S4, q⟩⟩ S3
    · have e : k = xs.length := by omega
      subst e
      exact .inl ⟨⟨hH', by omega⟩, L.nx σ' H' B' δ' (S'.back S.hist) (hd δ' ik)⟩
  intro B0 H0 B H σ D L S
  obtain ⟨v, hm, dv⟩ := S.slot (hv 0 δ h0)
  cases dv with
  | @dct a ks _ hr hkv =>
    rcases hr with hr | ⟨o, hr⟩
    · refine .inl ⟨a, .dK ks, S.hist.bh _ _ hr, True.intro, fun od => ?_⟩
      refine walk _ _ _ _ σ _ a od ks ⟨fun σ' H' B' δ' S' q => ?_, fun v B' H' d' hh dv q => ?_, fun σ' H' B' δ' S' q => ?_, fun σ' H' B' δ' S' q => ?_⟩ (S.lock hr) hm upd_same (L2.DqKv.rd (rdTo_frz hr) _ _ hkv)
      · obtain ⟨z1, z2⟩ := Sd.unlock S.hist hr S'
        exact ⟨z1, L.nx _ _ _ _ z2 q⟩
      · obtain ⟨z0, z1, z2⟩ := S.hist.unlock hr hh
        exact ⟨z1, L.rt _ _ _ _ z2 (L2.Dq.rd (rdTo_thaw z0) _ _ dv) q⟩
      · obtain ⟨z1, z2⟩ := Sd.unlock S.hist hr S'
        exact ⟨z1, L.bk _ _ _ _ z2 q⟩
      · obtain ⟨z1, z2⟩ := Sd.unlock S.hist hr S'
        exact ⟨z1, L.ct _ _ _ _ z2 q⟩
    · exact .inr (walk B0 H0 B H σ D a o ks L S hm hr hkv)
theorem wp_asgGP {te : TE} {g : TG} {P : D → Prop} (h : EP K te δ P) (q : ∀ d, P d → ∃ δ', GD K g δ d δ' ∧ E.nx δ') : WP K (tAsg te g) E δ := fun B0 H0 B H σ D L S =>
  h B0 H0 B H σ _ S fun v B1 H1 d s1 a p => by
    obtain ⟨δ', hg, q⟩ := q d p
    exact hg B0 H0 B1 H1 σ v _ (S.step s1) a fun σ' S' => L.nx σ' H1 B1 δ' S' q
end
end DX

namespace Lin
/-- vectors with rational coordinates -/
abbrev Vec := Nat → Rat
/-- the sum of f 0 .. f (n - 1) -/
def S : Nat → (Nat → Rat) → Rat
  | 0, _ => 0
  | n + 1, f => S n f + f n
theorem S_congr {n : Nat} {f g : Nat → Rat} (h : ∀ i, i < n → f i = g i) : S n f = S n g := by
  induction n with
  | zero => rfl
  | succ n ih =>
    show S n f + f n = S n g + g n
    rw [ih fun i hi => h i (by omega), h n (by omega)]
theorem S_zero {n : Nat} {f : Nat → Rat} (h : ∀ i, i < n → f i = 0) : S n f = 0 := by
  induction n with
  | zero => rfl
  | succ n ih =>
    show S n f + f n = 0
    rw [ih fun i hi => h i (by omega), h n (by omega)]
    exact Rat.add_zero 0
theorem S_add {n : Nat} {f g : Nat → Rat} : S n (fun i => f i + g i) = S n f + S n g := by
  induction n with
  | zero => exact (Rat.add_zero 0).symm
  | succ n ih =>
    show S n (fun i => f i + g i) + (f n + g n) = (S n f + f n) + (S n g + g n)
    rw [ih]; grind
theorem S_mul {n : Nat} {c : Rat} {f : Nat → Rat} : S n (fun i => c * f i) = c * S n f := by
  induction n with
  | zero => exact (Rat.mul_zero c).symm
  | succ n ih =>
    show S n (fun i => c * f i) + c * f n = c * (S n f + f n)
    rw [ih]; grind
theorem S_swap {n m : Nat} {f : Nat → Nat → Rat} : S n (fun i => S m (f i)) = S m (fun j => S n fun i => f i j) := by
  induction n with
  | zero => exact (S_zero fun _ _ => rfl).symm
  | succ n ih =>
    show S n (fun i => S m (f i)) + S m (f n) = S m (fun j => S n (fun i => f i j) + f n j)
    rw [ih, ← S_add]
/-- all places but p -/
def skip (p i : Nat) : Nat := if i < p then i else i + 1
theorem skip_ne (p i : Nat) : skip p i ≠ p := by unfold skip; split <;> omega
theorem skip_lt {p i n : Nat} (h : i < n) : skip p i < n + 1 := by unfold skip; split <;> omega
theorem skip_back (p i : Nat) : (if skip p i < p then skip p i else skip p i - 1) = i := by
  unfold skip
  by_cases h : i < p
  · rw [if_pos h, if_pos h]
  · rw [if_neg h, if_neg (by omega)]; omega
theorem S_skip {f : Nat → Rat} {p : Nat} : ∀ {n : Nat}, p < n + 1 → S (n + 1) f = S n (fun i => f (skip p i)) + f p
  | n, hp => by
    by_cases e : p = n
    · subst e
      show S p f + f p = _
      rw [S_congr (f := fun i => f (skip p i)) (g := f) fun i hi => by unfold skip; rw [if_pos hi]]
    · cases n with
      | zero => omega
      | succ n =>
        have ih := S_skip (f := f) (p := p) (n := n) (by omega)
        have e1 : skip p n = n + 1 := by unfold skip; rw [if_neg (by omega)]
        show S (n + 1) f + f (n + 1) = (S n (fun i => f (skip p i)) + f (skip p n)) + f p
        rw [ih, e1]; grind
/-- more unknowns than equations: a solution that is not nought -/
theorem solve : ∀ (r m : Nat) (A : Nat → Nat → Rat), r < m → ∃ x : Nat → Rat, (∃ i, i < m ∧ x i ≠ 0) ∧ ∀ j, j < r → S m (fun i => x i * A i j) = 0
  | 0, m, A, h => ⟨fun _ => 1, ⟨0, h, by decide⟩, fun j hj => by omega⟩
  | r + 1, m, A, h => by
    by_cases hz : ∃ p, p < m ∧ A p r ≠ 0
    · obtain ⟨p, hp, hA⟩ := hz
      cases m with
      | zero => omega
      | succ m =>
        obtain ⟨y, ⟨i0, hi0, hy0⟩, hy⟩ := solve r m (fun i j => A p r * A (skip p i) j - A (skip p i) r * A p j) (by omega)
        refine ⟨fun i => if i = p then -S m (fun l => y l * A (skip p l) r) else A p r * y (if i < p then i else i - 1), ?_, fun j hj => ?_⟩
        · refine ⟨skip p i0, skip_lt hi0, ?_⟩
          have e1 := skip_back p i0
          show (if skip p i0 = p then _ else A p r * y (if skip p i0 < p then skip p i0 else skip p i0 - 1)) ≠ 0
          rw [if_neg (skip_ne p i0), e1]
          intro z
          rcases Rat.mul_eq_zero.mp z with z | z
          · exact hA z
          · exact hy0 z
        · rw [S_skip hp]
          have e2 : S m (fun i => (fun i => (if i = p then -S m (fun l => y l * A (skip p l) r) else A p r * y (if i < p then i else i - 1)) * A i j) (skip p i)) = S m (fun i => A p r * (y i * A (skip p i) j)) := S_congr fun i hi => by
            have e1 := skip_back p i
            show (if skip p i = p then _ else A p r * y (if skip p i < p then skip p i else skip p i - 1)) * A (skip p i) j = _
            rw [if_neg (skip_ne p i), e1]; grind
          rw [e2, S_mul]
          show A p r * S m (fun i => y i * A (skip p i) j) + (if p = p then -S m (fun l => y l * A (skip p l) r) else _) * A p j = 0
          rw [if_pos rfl]
          by_cases hjr : j < r
          · have h1 := hy j hjr
            have e3 : S m (fun i => y i * (A p r * A (skip p i) j - A (skip p i) r * A p j)) = A p r * S m (fun i => y i * A (skip p i) j) + (-A p j) * S m (fun l => y l * A (skip p l) r) := by
              rw [← S_mul, ← S_mul, ← S_add]
              exact S_congr fun i _ => by grind
            rw [e3] at h1
            grind
          · have : j = r := by omega
            subst this
            grind
    · have hz' : ∀ p, p < m → A p r = 0 := fun p hp => Classical.byContradiction fun z => hz ⟨p, hp, z⟩
      obtain ⟨x, hx, he⟩ := solve r m A (by omega)
      refine ⟨x, hx, fun j hj => ?_⟩
      by_cases hjr : j < r
      · exact he j hjr
      · have : j = r := by omega
        subst this
        exact S_zero fun i hi => by rw [hz' i hi]; exact Rat.mul_zero _
/-- what is made of A by sums and multiples -/
inductive Sp (A : Vec → Prop) : Vec → Prop
  | mem {v : Vec} : A v → Sp A v
  | zero : Sp A fun _ => 0
  | add {u v : Vec} : Sp A u → Sp A v → Sp A fun j => u j + v j
  | smul {v : Vec} (c : Rat) : Sp A v → Sp A fun j => c * v j
theorem Sp.of {A : Vec → Prop} {u v : Vec} (h : Sp A u) (e : ∀ j, u j = v j) : Sp A v := (funext e : u = v) ▸ h
theorem Sp.trans {A B : Vec → Prop} (h : ∀ a, A a → Sp B a) {v : Vec} (hv : Sp A v) : Sp B v := by
  induction hv with
  | mem m => exact h _ m
  | zero => exact .zero
  | add _ _ a b => exact .add a b
  | smul c _ a => exact .smul c a
theorem Sp.mono {A B : Vec → Prop} (h : ∀ a, A a → B a) {v : Vec} (hv : Sp A v) : Sp B v := hv.trans fun a m => .mem (h a m)
/-- the vectors U 0 .. U (n - 1) -/
def Of (n : Nat) (U : Nat → Vec) : Vec → Prop := fun v => ∃ i, i < n ∧ v = U i
theorem Sp.coords {n : Nat} {U : Nat → Vec} {v : Vec} (h : Sp (Of n U) v) : ∃ c : Nat → Rat, ∀ j, v j = S n fun i => c i * U i j := by
  induction h with
  | mem m =>
    obtain ⟨i, hi, rfl⟩ := m
    refine ⟨fun k => if k = i then 1 else 0, fun j => ?_⟩
    cases n with
    | zero => omega
    | succ n =>
      rw [S_skip hi, S_zero fun k _ => by
        show (if skip i k = i then (1 : Rat) else 0) * _ = 0
        rw [if_neg (skip_ne i k)]; exact Rat.zero_mul _]
      show U i j = 0 + (if i = i then (1 : Rat) else 0) * U i j
      rw [if_pos rfl]; grind
  | zero => exact ⟨fun _ => 0, fun j => (S_zero fun i _ => Rat.zero_mul _).symm⟩
  | @add u v _ _ a b =>
    obtain ⟨c, hc⟩ := a
    obtain ⟨d, hd⟩ := b
    refine ⟨fun i => c i + d i, fun j => ?_⟩
    show u j + v j = _
    rw [hc, hd, ← S_add]
    exact S_congr fun i _ => by grind
  | @smul v k _ a =>
    obtain ⟨c, hc⟩ := a
    refine ⟨fun i => k * c i, fun j => ?_⟩
    show k * v j = _
    rw [hc, ← S_mul]
    exact S_congr fun i _ => by grind
def Ind (n : Nat) (V : Nat → Vec) : Prop := ∀ x : Nat → Rat, (∀ j, S n (fun i => x i * V i j) = 0) → ∀ i, i < n → x i = 0
theorem steinitz {m n : Nat} {U V : Nat → Vec} (h : ∀ i, i < m → Sp (Of n U) (V i)) (ind : Ind m V) : m ≤ n := by
  apply Classical.byContradiction
  intro hlt
  have hc : ∀ i, ∃ c : Nat → Rat, i < m → ∀ j, V i j = S n fun l => c l * U l j := fun i => by
    by_cases hi : i < m
    · obtain ⟨c, e⟩ := (h i hi).coords
      exact ⟨c, fun _ => e⟩
    · exact ⟨fun _ => 0, fun z => absurd z hi⟩
  let C : Nat → Nat → Rat := fun i => Classical.choose (hc i)
  have hC : ∀ i, i < m → ∀ j, V i j = S n fun l => C i l * U l j := fun i => Classical.choose_spec (hc i)
  obtain ⟨x, ⟨i0, hi0, hx0⟩, hx⟩ := solve n m C (by omega)
  refine hx0 (ind x (fun j => ?_) i0 hi0)
  have e1 : S m (fun i => x i * V i j) = S m (fun i => S n fun l => (x i * C i l) * U l j) := S_congr fun i hi => by
    rw [hC i hi j, ← S_mul]
    exact S_congr fun l _ => by grind
  rw [e1, S_swap]
  refine S_zero fun l hl => ?_
  have e2 : S m (fun i => (x i * C i l) * U l j) = U l j * S m (fun i => x i * C i l) := by
    rw [← S_mul]
    exact S_congr fun i _ => by grind
  rw [e2, hx l hl]
  exact Rat.mul_zero _
/-- there are r independent vectors in the span; r vectors span it -/
def Lo (A : Vec → Prop) (r : Nat) : Prop := ∃ V : Nat → Vec, (∀ i, i < r → Sp A (V i)) ∧ Ind r V
def Hi (A : Vec → Prop) (r : Nat) : Prop := ∃ U : Nat → Vec, ∀ a, A a → Sp (Of r U) a
theorem Lo.le {A : Vec → Prop} {r s : Nat} (h : Lo A r) (h' : Hi A s) : r ≤ s := by
  obtain ⟨V, hV, ind⟩ := h
  obtain ⟨U, hU⟩ := h'
  exact steinitz (fun i hi => (hV i hi).trans hU) ind
theorem Lo.sub {A B : Vec → Prop} {r : Nat} (h : Lo A r) (e : ∀ a, A a → Sp B a) : Lo B r := by
  obtain ⟨V, hV, ind⟩ := h
  exact ⟨V, fun i hi => (hV i hi).trans e, ind⟩
theorem Hi.sub {A B : Vec → Prop} {r : Nat} (h : Hi A r) (e : ∀ b, B b → Sp A b) : Hi B r := by
  obtain ⟨U, hU⟩ := h
  exact ⟨U, fun b hb => (e b hb).trans hU⟩
theorem Hi.of (n : Nat) (U : Nat → Vec) : Hi (Of n U) n := ⟨U, fun _ h => .mem h⟩
/-- vectors with noughts from w on -/
theorem Hi.width {A : Vec → Prop} {w : Nat} (h : ∀ a, A a → ∀ j, w ≤ j → a j = 0) : Hi A w := by
  refine ⟨fun i j => if j = i then 1 else 0, fun a ha => ?_⟩
  have key : ∀ n, Sp (Of n fun i j => if j = i then 1 else 0) (fun j => if j < n then a j else 0) := by
    intro n
    induction n with
    | zero => exact Sp.zero.of fun j => by rw [if_neg (by omega)]
    | succ n ih =>
      refine Sp.of (.add (ih.mono fun v ⟨i, hi, e⟩ => ⟨i, by omega, e⟩) (.smul (a n) (.mem ⟨n, by omega, rfl⟩))) fun j => ?_
      show (if j < n then a j else 0) + a n * (if j = n then 1 else 0) = _
      by_cases h1 : j < n
      · rw [if_pos h1, if_neg (by omega), if_pos (by omega)]; grind
      · by_cases h2 : j = n
        · subst h2
          rw [if_neg h1, if_pos rfl, if_pos (by omega)]; grind
        · rw [if_neg h1, if_neg h2, if_neg (by omega)]; grind
  refine (key w).of fun j => ?_
  by_cases hj : j < w
  · rw [if_pos hj]
  · rw [if_neg hj, h a ha j (by omega)]
/-- each vector has a place where it and none behind it is not nought -/
theorem Ind.tri {n : Nat} {V : Nat → Vec} {p : Nat → Nat} (h0 : ∀ i, i < n → V i (p i) ≠ 0) (h1 : ∀ i k, i < k → k < n → V k (p i) = 0) : Ind n V := by
  intro x hx
  have key : ∀ m, m ≤ n → ∀ i, i < m → x i = 0 := by
    intro m
    induction m with
    | zero => intro _ i hi; omega
    | succ m ih =>
      intro hm i hi
      by_cases e : i < m
      · exact ih (by omega) i e
      · have : i = m := by omega
        subst this
        have hz := hx (p i)
        have e1 : S n (fun k => x k * V k (p i)) = x i * V i (p i) := by
          cases n with
          | zero => omega
          | succ n =>
            rw [S_skip (show i < n + 1 by omega), S_zero fun k hk => ?_]
            · exact Rat.zero_add _
            · show x (skip i k) * V (skip i k) (p i) = 0
              by_cases hk2 : skip i k < i
              · rw [ih (by omega) _ hk2]; exact Rat.zero_mul _
              · have := skip_ne i k
                rw [h1 i _ (by omega) (skip_lt hk)]; exact Rat.mul_zero _
        rw [e1] at hz
        rcases Rat.mul_eq_zero.mp hz with z | z
        · exact z
        · exact absurd z (h0 i (by omega))
  exact key n (Nat.le_refl _)
end Lin

namespace Wed
open Lin
/-- to a function of lists of columns one more row: the sum over the places of the list, with signs in turn -/
def L (r : Nat → Int) : (List Nat → Int) → List Nat → Int
  | _, [] => 0
  | W, c :: T => r c * W T - L r (fun X => W (c :: X)) T
theorem L_add (r : Nat → Int) : ∀ (T : List Nat) (U V : List Nat → Int), L r (fun X => U X + V X) T = L r U T + L r V T
  | [], _, _ => rfl
  | c :: T, U, V => by
    show r c * (U T + V T) - L r (fun X => U (c :: X) + V (c :: X)) T = (r c * U T - L r _ T) + (r c * V T - L r _ T)
    rw [L_add r T, Int.mul_add]; omega
theorem L_smul (r : Nat → Int) (k : Int) : ∀ (T : List Nat) (U : List Nat → Int), L r (fun X => k * U X) T = k * L r U T
  | [], _ => (Int.mul_zero k).symm
  | c :: T, U => by
    show r c * (k * U T) - L r (fun X => k * U (c :: X)) T = k * (r c * U T - L r _ T)
    rw [L_smul r k T, Int.mul_sub, ← Int.mul_assoc, ← Int.mul_assoc, Int.mul_comm (r c) k]
theorem L_zero (r : Nat → Int) : ∀ (T : List Nat) (U : List Nat → Int), (∀ X, U X = 0) → L r U T = 0
  | [], _, _ => rfl
  | c :: T, U, h => by
    show r c * U T - L r (fun X => U (c :: X)) T = 0
    rw [h, L_zero r T _ fun X => h _, Int.mul_zero]; rfl
theorem L_congr (r : Nat → Int) {U V : List Nat → Int} (h : ∀ X, U X = V X) (T : List Nat) : L r U T = L r V T := by
  rw [show U = V from funext h]
theorem L_sub (r : Nat → Int) (T : List Nat) (U V : List Nat → Int) : L r (fun X => U X - V X) T = L r U T - L r V T := by
  have e := L_add r T U fun X => (-1) * V X
  rw [L_smul] at e
  rw [L_congr r (V := fun X => U X + (-1) * V X) fun X => by omega, e]; omega
theorem L_self (r : Nat → Int) : ∀ (T : List Nat) (W : List Nat → Int), L r (L r W) T = 0
  | [], _ => rfl
  | c :: T, W => by
    show r c * L r W T - L r (fun X => r c * W X - L r (fun Y => W (c :: Y)) X) T = 0
    rw [L_sub, L_smul, L_self r T fun Y => W (c :: Y)]; omega
theorem L_anti (r s : Nat → Int) : ∀ (T : List Nat) (W : List Nat → Int), L r (L s W) T + L s (L r W) T = 0
  | [], _ => rfl
  | c :: T, W => by
    show r c * L s W T - L r (fun X => s c * W X - L s (fun Y => W (c :: Y)) X) T + (s c * L r W T - L s (fun X => r c * W X - L r (fun Y => W (c :: Y)) X) T) = 0
    have ih := L_anti r s T fun Y => W (c :: Y)
    rw [L_sub, L_sub, L_smul, L_smul]; omega
/-- the minors of the rows, by their columns -/
def wedge : List (Nat → Int) → List Nat → Int
  | [], T => if T = [] then 1 else 0
  | r :: rs, T => L r (wedge rs) T
theorem wedge_mem : ∀ (rs : List (Nat → Int)) (r : Nat → Int) (T : List Nat), r ∈ rs → L r (wedge rs) T = 0
  | [], _, _, h => by cases h
  | s :: rs, r, T, h => by
    show L r (L s (wedge rs)) T = 0
    rcases List.mem_cons.mp h with rfl | h
    · exact L_self _ _ _
    · have e := L_anti r s T (wedge rs)
      rw [L_zero s T (L r (wedge rs)) fun X => wedge_mem rs r X h] at e
      omega
/-- two columns exchanged -/
def Ant (W : List Nat → Int) : Prop := ∀ (X : List Nat) (a b : Nat) (Y : List Nat), W (X ++ a :: b :: Y) = -W (X ++ b :: a :: Y)
theorem Ant.cons {W : List Nat → Int} (h : Ant W) (c : Nat) : Ant fun X => W (c :: X) := fun X a b Y => h (c :: X) a b Y
theorem L_ant (r : Nat → Int) : ∀ (X : List Nat) (W : List Nat → Int) (a b : Nat) (Y : List Nat), Ant W → L r W (X ++ a :: b :: Y) = -L r W (X ++ b :: a :: Y)
  | [], W, a, b, Y, h => by
    show r a * W (b :: Y) - (r b * W (a :: Y) - L r (fun Z => W (a :: b :: Z)) Y) = -(r b * W (a :: Y) - (r a * W (b :: Y) - L r (fun Z => W (b :: a :: Z)) Y))
    have e : L r (fun Z => W (a :: b :: Z)) Y = (-1) * L r (fun Z => W (b :: a :: Z)) Y := by
      rw [← L_smul]
      exact L_congr r (fun Z => by
        have := h [] a b Z
        simp only [List.nil_append] at this
        omega) Y
    rw [e]; omega
  | x :: X, W, a, b, Y, h => by
    show r x * W (X ++ a :: b :: Y) - L r (fun Z => W (x :: Z)) (X ++ a :: b :: Y) = -(r x * W (X ++ b :: a :: Y) - L r (fun Z => W (x :: Z)) (X ++ b :: a :: Y))
    rw [h X a b Y, L_ant r X _ a b Y (h.cons x), Int.mul_neg]; omega
theorem wedge_ant : ∀ rs : List (Nat → Int), Ant (wedge rs)
  | [], X, a, b, Y => by
    show (if X ++ a :: b :: Y = [] then (1 : Int) else 0) = -(if X ++ b :: a :: Y = [] then (1 : Int) else 0)
    rw [if_neg (by simp), if_neg (by simp)]; rfl
  | r :: rs, X, a, b, Y => L_ant r X (wedge rs) a b Y (wedge_ant rs)
theorem Ant.dup {W : List Nat → Int} (h : Ant W) (j : Nat) : ∀ (Z X Y : List Nat), W (X ++ j :: (Z ++ j :: Y)) = 0
  | [], X, Y => by
    have := h X j j Y
    show W (X ++ j :: j :: Y) = 0
    omega
  | z :: Z, X, Y => by
    show W (X ++ j :: z :: (Z ++ j :: Y)) = 0
    have e := Ant.dup h j Z (X ++ [z]) Y
    rw [h, List.append_assoc] at *
    simp only [List.append_assoc, List.cons_append, List.nil_append] at e
    omega
theorem wedge_dup {rs : List (Nat → Int)} {P : List Nat} {j : Nat} (h : j ∈ P) : wedge rs (P ++ [j]) = 0 := by
  obtain ⟨X, Z, rfl⟩ := List.append_of_mem h
  rw [List.append_assoc]
  exact (wedge_ant rs).dup j Z X []
/-- a column moved to the end: the sign aside -/
theorem Ant.move {W : List Nat → Int} (h : Ant W) (j : Nat) : ∀ (Y X : List Nat), W (X ++ j :: Y) = (-1) ^ Y.length * W (X ++ Y ++ [j])
  | [], X => by rw [List.append_nil]; simp
  | y :: Y, X => by
    have e := Ant.move h j Y (X ++ [y])
    rw [h]
    simp only [List.append_assoc, List.cons_append, List.nil_append] at e ⊢
    rw [e, List.length_cons, Int.pow_succ]
    generalize ((-1 : Int) ^ Y.length) = k
    rw [Int.mul_neg_one, Int.neg_mul]
theorem L_snoc (r : Nat → Int) (j : Nat) : ∀ (T : List Nat) (W : List Nat → Int), L r W (T ++ [j]) = L r (fun X => W (X ++ [j])) T + (-1) ^ T.length * (r j * W T)
  | [], W => by
    show r j * W [] - 0 = 0 + (-1) ^ 0 * (r j * W [])
    rw [Int.pow_zero]; omega
  | c :: T, W => by
    show r c * W (T ++ [j]) - L r (fun X => W (c :: X)) (T ++ [j]) = (r c * W (T ++ [j]) - L r (fun X => W (c :: (X ++ [j]))) T) + (-1) ^ (T.length + 1) * (r j * W (c :: T))
    rw [L_snoc r j T, Int.pow_succ]
    generalize ((-1 : Int) ^ T.length) = k
    rw [Int.mul_neg_one, Int.neg_mul]; omega
/-- sizes -/
theorem L_bound {r : Nat → Int} {B M : Nat} (hr : ∀ c, (r c).natAbs ≤ B) : ∀ (T : List Nat) (W : List Nat → Int), (∀ X, (W X).natAbs ≤ M) → (L r W T).natAbs ≤ T.length * (B * M)
  | [], _, _ => Nat.zero_le _
  | c :: T, W, h => by
    have h1 := L_bound hr T (fun X => W (c :: X)) fun X => h _
    have h2 : (r c * W T).natAbs ≤ B * M := by
      rw [Int.natAbs_mul]
      exact Nat.mul_le_mul (hr c) (h T)
    show (r c * W T - L r (fun X => W (c :: X)) T).natAbs ≤ (T.length + 1) * (B * M)
    rw [Nat.succ_mul]
    omega
theorem L_len (r : Nat → Int) {n : Nat} : ∀ (T : List Nat) (W : List Nat → Int), (∀ X, X.length + 1 = T.length → W X = 0) → L r W T = 0
  | [], _, _ => rfl
  | c :: T, W, h => by
    show r c * W T - L r (fun X => W (c :: X)) T = 0
    rw [h T rfl, L_len r (n := n) T _ fun X hX => h (c :: X) (by simp only [List.length_cons]; omega), Int.mul_zero]; rfl
theorem wedge_len : ∀ (rs : List (Nat → Int)) (T : List Nat), T.length ≠ rs.length → wedge rs T = 0
  | [], T, h => by
    show (if T = [] then (1 : Int) else 0) = 0
    rw [if_neg fun e => h (by rw [e]; rfl)]
  | r :: rs, T, h => L_len r (n := 0) T _ fun X hX => wedge_len rs X (by simp only [List.length_cons] at h; omega)
def fac : Nat → Nat
  | 0 => 1
  | n + 1 => (n + 1) * fac n
theorem wedge_bound {B : Nat} : ∀ (rs : List (Nat → Int)) (T : List Nat), (∀ r ∈ rs, ∀ c, (r c).natAbs ≤ B) → (wedge rs T).natAbs ≤ fac rs.length * B ^ rs.length
  | [], T, _ => by
    show (if T = [] then (1 : Int) else 0).natAbs ≤ 1 * B ^ 0
    rw [Nat.pow_zero]
    split <;> decide
  | r :: rs, T, h => by
    by_cases hl : T.length = (r :: rs).length
    · have h1 := L_bound (h r (List.mem_cons_self ..)) T (wedge rs) fun X => wedge_bound rs X fun s hs => h s (List.mem_cons_of_mem _ hs)
      rw [hl] at h1
      refine Nat.le_trans h1 ?_
      rw [List.length_cons, fac, Nat.pow_succ]
      generalize fac rs.length = f
      generalize B ^ rs.length = b
      have e : B * (f * b) = f * (b * B) := by rw [Nat.mul_comm B, Nat.mul_assoc]
      rw [e, ← Nat.mul_assoc]
      exact Nat.le_refl _
    · rw [wedge_len _ _ hl]
      exact Nat.zero_le _
/-! ### minors as sums of multiples of the rows -/
def castV (r : Nat → Int) : Vec := fun j => ((r j : Int) : Rat)
def RowsOf (rs : List (Nat → Int)) : Vec → Prop := fun v => ∃ r ∈ rs, v = castV r
theorem sp_L {A : Vec → Prop} (r : Nat → Int) : ∀ (T : List Nat) (G : Nat → List Nat → Int), (∀ X, Sp A (castV fun j => G j X)) → Sp A (castV fun j => L r (G j) T)
  | [], _, _ => Sp.zero.of fun j => by show (0 : Rat) = ((0 : Int) : Rat); rfl
  | c :: T, G, h => by
    have h1 := sp_L r T (fun j X => G j (c :: X)) fun X => h _
    refine Sp.of (.add (.smul (r c : Rat) (h T)) (.smul (-1) h1)) fun j => ?_
    show ((r c : Int) : Rat) * ((G j T : Int) : Rat) + (-1) * ((L r (fun X => G j (c :: X)) T : Int) : Rat) = ((r c * G j T - L r (fun X => G j (c :: X)) T : Int) : Rat)
    rw [Rat.intCast_sub, Rat.intCast_mul]; grind
theorem wedge_sp : ∀ (rs : List (Nat → Int)) (T : List Nat), Sp (RowsOf rs) (castV fun j => wedge rs (T ++ [j]))
  | [], T => Sp.zero.of fun j => by
    show (0 : Rat) = (((if T ++ [j] = [] then (1 : Int) else 0) : Int) : Rat)
    rw [if_neg (by simp)]; rfl
  | r :: rs, T => by
    have h1 := sp_L (A := RowsOf (r :: rs)) r T (fun j X => wedge rs (X ++ [j])) fun X => (wedge_sp rs X).mono fun v ⟨s, hs, e⟩ => ⟨s, List.mem_cons_of_mem _ hs, e⟩
    refine Sp.of (.add h1 (.smul (((-1) ^ T.length * wedge rs T : Int) : Rat) (.mem ⟨r, List.mem_cons_self .., rfl⟩))) fun j => ?_
    show ((L r (fun X => wedge rs (X ++ [j])) T : Int) : Rat) + (((-1) ^ T.length * wedge rs T : Int) : Rat) * ((r j : Int) : Rat) = ((L r (wedge rs) (T ++ [j]) : Int) : Rat)
    rw [L_snoc, ← Rat.intCast_mul, ← Rat.intCast_add]
    congr 2
    rw [Int.mul_assoc, Int.mul_comm (wedge rs T)]
end Wed

namespace Elim
open Lin Wed

theorem rows_cons {q : Nat → Int} {rs : List (Nat → Int)} {w : Vec} (h : Sp (RowsOf (q :: rs)) w) : ∃ (c : Rat) (w1 : Vec), Sp (RowsOf rs) w1 ∧ ∀ j, w j = c * castV q j + w1 j := by
  induction h with
  | mem m =>
    obtain ⟨r, hr, rfl⟩ := m
    rcases List.mem_cons.mp hr with rfl | hr
    · exact ⟨1, _, .zero, fun j => by grind⟩
    · exact ⟨0, _, .mem ⟨r, hr, rfl⟩, fun j => by grind⟩
  | zero => exact ⟨0, _, .zero, fun j => by grind⟩
  | @add u v _ _ a b =>
    obtain ⟨c, w1, h1, e1⟩ := a
    obtain ⟨d, w2, h2, e2⟩ := b
    exact ⟨c + d, _, .add h1 h2, fun j => by
      show u j + v j = _
      rw [e1, e2]; grind⟩
  | @smul v k _ a =>
    obtain ⟨c, w1, h1, e1⟩ := a
    exact ⟨k * c, _, .smul k h1, fun j => by
      show k * v j = _
      rw [e1]; grind⟩
theorem sp_cons {q : Nat → Int} {rs : List (Nat → Int)} {w : Vec} (h : Sp (RowsOf rs) w) : Sp (RowsOf (q :: rs)) w := h.mono fun v ⟨r, hr, e⟩ => ⟨r, List.mem_cons_of_mem _ hr, e⟩
theorem sp_sub {A : Vec → Prop} {u v : Vec} (a : Sp A u) (b : Sp A v) : Sp A fun j => u j - v j := (Sp.add a (.smul (-1) b)).of fun j => by grind

theorem S_front {n : Nat} {f : Nat → Rat} : S (n + 1) f = f 0 + S n fun i => f (i + 1) := by
  induction n with
  | zero => show (0 : Rat) + f 0 = f 0 + 0; grind
  | succ n ih =>
    show S (n + 1) f + f (n + 1) = f 0 + (S n (fun i => f (i + 1)) + f (n + 1))
    rw [ih]; grind
theorem sp_S {A : Vec → Prop} {V : Nat → Vec} {c : Nat → Rat} : ∀ {n : Nat}, (∀ i, i < n → Sp A (V i)) → Sp A fun j => S n fun i => c i * V i j
  | 0, _ => Sp.zero
  | n + 1, h => .add (sp_S fun i hi => h i (by omega)) (.smul _ (h n (by omega)))
def vecs (rs : List (Nat → Int)) : Nat → Vec := fun i => castV (rs.getD i fun _ => 0)
theorem sp_vecs {rs : List (Nat → Int)} {i : Nat} (h : i < rs.length) : Sp (RowsOf rs) (vecs rs i) := .mem ⟨rs[i], List.getElem_mem h, by
  unfold vecs
  rw [List.getD_eq_getElem?_getD, List.getElem?_eq_getElem h]; rfl⟩
/-- rows chosen one by one with their columns -/
structure El (rs : List (Nat → Int)) (P : List Nat) : Prop where
  len : P.length = rs.length
  ne : wedge rs P ≠ 0
  inj : ∀ w, Sp (RowsOf rs) w → (∀ p ∈ P, w p = 0) → ∀ j, w j = 0
  ind : Ind rs.length (vecs rs)
theorem sp_none {w : Vec} (h : Sp (RowsOf []) w) : ∀ j, w j = 0 := by
  induction h with
  | mem m => obtain ⟨r, hr, _⟩ := m; cases hr
  | zero => exact fun _ => rfl
  | @add u v _ _ a b => exact fun j => by show u j + v j = 0; rw [a, b]; exact Rat.add_zero 0
  | @smul v k _ a => exact fun j => by show k * v j = 0; rw [a]; exact Rat.mul_zero _
theorem El.nil : El [] [] := ⟨rfl, by decide, fun w h _ => sp_none h, fun _ _ i hi => absurd hi (Nat.not_lt_zero i)⟩
def sg (P : List Nat) : Int := (-1) ^ P.length
theorem sg_ne (P : List Nat) : sg P = 1 ∨ sg P = -1 := by
  unfold sg
  induction P.length with
  | zero => exact .inl rfl
  | succ n ih => rw [Int.pow_succ]; omega
/-- Cramer's rule -/
theorem El.cramer {rs : List (Nat → Int)} {P : List Nat} (E : El rs P) {q : Nat → Int} {u w : Vec} (hw : Sp (RowsOf rs) w) (hu : ∀ j, u j = castV q j + w j) (h0 : ∀ p ∈ P, u p = 0) (j : Nat) :
    ((sg P * wedge rs P : Int) : Rat) * u j = ((wedge (q :: rs) (P ++ [j]) : Int) : Rat) := by
  have h1 := sp_L (A := RowsOf rs) q P (fun j X => wedge rs (X ++ [j])) fun X => wedge_sp rs X
  have e1 : ∀ j, ((wedge (q :: rs) (P ++ [j]) : Int) : Rat) = ((L q (fun X => wedge rs (X ++ [j])) P : Int) : Rat) + ((sg P * wedge rs P : Int) : Rat) * castV q j := fun j => by
    show ((L q (wedge rs) (P ++ [j]) : Int) : Rat) = _ + _ * ((q j : Int) : Rat)
    rw [L_snoc, ← Rat.intCast_mul, ← Rat.intCast_add]
    congr 2
    unfold sg
    rw [Int.mul_assoc, Int.mul_comm (wedge rs P)]
  have z := E.inj (fun j => ((sg P * wedge rs P : Int) : Rat) * w j - ((L q (fun X => wedge rs (X ++ [j])) P : Int) : Rat)) (sp_sub (.smul _ hw) h1) fun p hp => by
    have a := e1 p
    rw [show wedge (q :: rs) (P ++ [p]) = 0 from wedge_dup hp] at a
    have b := hu p
    rw [h0 p hp] at b
    have c : ((0 : Int) : Rat) = 0 := rfl
    rw [c] at a
    grind
  have zj := z j
  rw [e1 j, hu j]
  grind
theorem El.step {rs : List (Nat → Int)} {P : List Nat} (E : El rs P) {q : Nat → Int} {u w : Vec} {p : Nat} (hw : Sp (RowsOf rs) w) (hu : ∀ j, u j = castV q j + w j) (h0 : ∀ p ∈ P, u p = 0) (hp : u p ≠ 0) : El (q :: rs) (P ++ [p]) := by
  refine ⟨by rw [List.length_append, E.len]; rfl, fun z => ?_, fun v hv hz => ?_, fun x hx => ?_⟩
  · have e := E.cramer hw hu h0 p
    rw [z] at e
    rcases Rat.mul_eq_zero.mp e with a | a
    · have a : sg P * wedge rs P = 0 := Rat.intCast_eq_zero_iff.mp a
      rcases Int.mul_eq_zero.mp a with b | b
      · rcases sg_ne P with c | c <;> omega
      · exact E.ne b
    · exact hp a
  · obtain ⟨c, w1, h1, e1⟩ := rows_cons hv
    have h2 : Sp (RowsOf rs) fun j => w1 j - c * w j := sp_sub h1 (.smul c hw)
    have e2 : ∀ j, v j = c * u j + (w1 j - c * w j) := fun j => by rw [e1, hu]; grind
    have z2 := E.inj _ h2 fun x hx => by
      have a := e2 x
      rw [hz x (List.mem_append_left _ hx), h0 x hx] at a
      grind
    have z3 : c = 0 := by
      have a := e2 p
      rw [hz p (List.mem_append_right _ (List.mem_singleton.mpr rfl)), z2 p] at a
      rcases Rat.mul_eq_zero.mp (show c * u p = 0 by grind) with b | b
      · exact b
      · exact absurd b hp
    intro j
    rw [e2 j, z2 j, z3]; grind
  · have hs : ∀ j, x 0 * castV q j + S rs.length (fun i => x (i + 1) * vecs rs i j) = 0 := fun j => by
      have := hx j
      rw [List.length_cons, S_front] at this
      exact this
    have h2 : Sp (RowsOf rs) fun j => x 0 * u j := by
      refine Sp.of (sp_sub (.smul (x 0) hw) (sp_S (c := fun i => x (i + 1)) (V := vecs rs) (n := rs.length) fun i hi => sp_vecs hi)) fun j => ?_
      have a := hs j
      rw [hu j]; grind
    have z0 : x 0 = 0 := by
      have a := E.inj _ h2 (fun p' hp' => by rw [h0 p' hp']; exact Rat.mul_zero _) p
      rcases Rat.mul_eq_zero.mp a with b | b
      · exact b
      · exact absurd b hp
    have hi := E.ind (fun i => x (i + 1)) fun j => by
      have a := hs j
      rw [z0] at a; grind
    intro i hi2
    cases i with
    | zero => exact z0
    | succ i => exact hi i (by rw [List.length_cons] at hi2; omega)
theorem El.lo {rs : List (Nat → Int)} {P : List Nat} (E : El rs P) : Lo (RowsOf rs) rs.length := ⟨vecs rs, fun _ hi => sp_vecs hi, E.ind⟩
theorem hi_rows (rs : List (Nat → Int)) : Hi (RowsOf rs) rs.length := ⟨vecs rs, fun a ⟨r, hr, e⟩ => by
  obtain ⟨i, hi, rfl⟩ := List.mem_iff_getElem.mp hr
  refine .mem ⟨i, hi, ?_⟩
  rw [e]
  unfold vecs
  rw [List.getD_eq_getElem?_getD, List.getElem?_eq_getElem hi]; rfl⟩
/-- r is the rank -/
def Rk (A : Vec → Prop) (r : Nat) : Prop := Lo A r ∧ Hi A r
theorem Rk.uniq {A : Vec → Prop} {r s : Nat} (h : Rk A r) (h' : Rk A s) : r = s := Nat.le_antisymm (h.1.le h'.2) (h'.1.le h.2)
/-- the numbers of lowest terms are no greater than others -/
theorem low_bound {n d D v : Int} (hg : Nat.gcd n.natAbs d.natAbs = 1) (hd : 0 < d) (hD : D ≠ 0) (e : n * D = v * d) : d.natAbs ≤ D.natAbs ∧ n.natAbs ≤ v.natAbs := by
  have e2 : n.natAbs * D.natAbs = v.natAbs * d.natAbs := by rw [← Int.natAbs_mul, ← Int.natAbs_mul, e]
  have h1 : d.natAbs ∣ D.natAbs := Nat.Coprime.dvd_of_dvd_mul_left (show Nat.Coprime d.natAbs n.natAbs by unfold Nat.Coprime; rw [Nat.gcd_comm]; exact hg) ⟨v.natAbs, by rw [e2, Nat.mul_comm]⟩
  have hDp : 0 < D.natAbs := Int.natAbs_pos.mpr hD
  have h3 := Nat.le_of_dvd hDp h1
  refine ⟨h3, ?_⟩
  have hdp : 0 < d.natAbs := Int.natAbs_pos.mpr (by omega)
  have h4 : n.natAbs * d.natAbs ≤ v.natAbs * d.natAbs := by
    rw [← e2]
    exact Nat.mul_le_mul_left _ h3
  exact Nat.le_of_mul_le_mul_right h4 hdp
/-- a primitive list of integers is no greater than another one that is a multiple of it -/
theorem prim_bound {x v : Nat → Int} {a b : Int} (hb : b ≠ 0) (ha : a ≠ 0) (e : ∀ j, a * x j = b * v j) (prim : ∀ k : Nat, (∀ j, (k : Int) ∣ x j) → k = 1) (j : Nat) : (x j).natAbs ≤ (v j).natAbs := by
  have hg : 0 < Nat.gcd a.natAbs b.natAbs := Nat.gcd_pos_of_pos_left _ (Int.natAbs_pos.mpr ha)
  obtain ⟨a', ea⟩ := Nat.gcd_dvd_left a.natAbs b.natAbs
  obtain ⟨b', eb⟩ := Nat.gcd_dvd_right a.natAbs b.natAbs
  have cop : Nat.Coprime a' b' := by
    have := Nat.coprime_div_gcd_div_gcd hg
    rwa [Nat.div_eq_of_eq_mul_right hg ea, Nat.div_eq_of_eq_mul_right hg eb] at this
  generalize Nat.gcd a.natAbs b.natAbs = g at *
  have eN : ∀ j, a' * (x j).natAbs = b' * (v j).natAbs := fun j => by
    have h := congrArg Int.natAbs (e j)
    rw [Int.natAbs_mul, Int.natAbs_mul, ea, eb, Nat.mul_assoc, Nat.mul_assoc] at h
    exact Nat.eq_of_mul_eq_mul_left hg h
  have hb1 : b' = 1 := prim b' fun j => by
    have : b' ∣ (x j).natAbs := (Nat.Coprime.symm cop).dvd_of_dvd_mul_left ⟨_, eN j⟩
    exact Int.ofNat_dvd_left.mpr this
  have ha1 : 1 ≤ a' := by
    rcases Nat.eq_zero_or_pos a' with z | z
    · rw [z, Nat.mul_zero] at ea
      exact absurd (Int.natAbs_eq_zero.mp ea) ha
    · exact z
  have h := eN j
  rw [hb1, Nat.one_mul] at h
  rw [← h]
  exact Nat.le_mul_of_pos_left _ ha1
end Elim

namespace DX
open Lin Wed Elim
/-! ### numbers as rationals -/
def val (a : Int × Int) : Rat := (a.1 : Rat) / (a.2 : Rat)
def Red (a : Int × Int) : Prop := 0 < a.2 ∧ Nat.gcd a.1.natAbs a.2.natAbs = 1
theorem cast_ne {n : Int} (h : n ≠ 0) : (n : Rat) ≠ 0 := fun z => h (Rat.intCast_eq_zero_iff.mp z)
theorem val_nrm {n m : Int} (h : m ≠ 0) : val (nrm n m) = (n : Rat) / (m : Rat) := by
  have e1 := congrArg (fun z : Int => (z : Rat)) (nrm_mul1 n m)
  have e2 := congrArg (fun z : Int => (z : Rat)) (nrm_mul2 n m)
  have hp := cast_ne (show (nrm n m).2 ≠ 0 by have := nrm_pos (n := n) h; omega)
  have hd := cast_ne (dvs_ne (n := n) h)
  simp only [Rat.intCast_mul] at e1 e2
  unfold val
  rw [← e1, ← e2]
  grind
theorem red_nrm {n m : Int} (h : m ≠ 0) : Red (nrm n m) := by
  refine ⟨nrm_pos h, ?_⟩
  have hg : 0 < Nat.gcd n.natAbs m.natAbs := gcd_pos h
  have e1 := congrArg Int.natAbs (nrm_mul1 n m)
  have e2 := congrArg Int.natAbs (nrm_mul2 n m)
  rw [Int.natAbs_mul, dvs_abs] at e1 e2
  have c := Nat.coprime_div_gcd_div_gcd hg
  rwa [← Nat.eq_div_of_mul_eq_left (by omega) e1, ← Nat.eq_div_of_mul_eq_left (by omega) e2] at c
def nplus (a b : Int × Int) : Int × Int := nrm (a.1 * b.2 + b.1 * a.2) (a.2 * b.2)
def ntimes (a b : Int × Int) : Int × Int := nrm (a.1 * b.1) (a.2 * b.2)
theorem val_plus {a b : Int × Int} (ha : a.2 ≠ 0) (hb : b.2 ≠ 0) : val (nplus a b) = val a + val b := by
  unfold nplus
  rw [val_nrm (Int.mul_ne_zero ha hb)]
  have h1 := cast_ne ha
  have h2 := cast_ne hb
  unfold val
  rw [Rat.intCast_add, Rat.intCast_mul, Rat.intCast_mul, Rat.intCast_mul]
  grind
theorem val_times {a b : Int × Int} (ha : a.2 ≠ 0) (hb : b.2 ≠ 0) : val (ntimes a b) = val a * val b := by
  unfold ntimes
  rw [val_nrm (Int.mul_ne_zero ha hb)]
  have h1 := cast_ne ha
  have h2 := cast_ne hb
  unfold val
  rw [Rat.intCast_mul, Rat.intCast_mul]
  grind
theorem Red.ne {a : Int × Int} (h : Red a) : a.2 ≠ 0 := by have := h.1; omega
theorem red_plus {a b : Int × Int} (ha : Red a) (hb : Red b) : Red (nplus a b) := red_nrm (Int.mul_ne_zero ha.ne hb.ne)
theorem red_times {a b : Int × Int} (ha : Red a) (hb : Red b) : Red (ntimes a b) := red_nrm (Int.mul_ne_zero ha.ne hb.ne)
theorem val_zero {a : Int × Int} (h : a.2 ≠ 0) : val a = 0 ↔ a.1 = 0 := by
  have h2 := cast_ne h
  unfold val
  constructor
  · intro z
    have : (a.1 : Rat) = 0 := by grind
    exact Rat.intCast_eq_zero_iff.mp this
  · intro z
    rw [z]
    have : ((0 : Int) : Rat) = 0 := rfl
    rw [this]; grind
/-! ### the law's elimination -/
def rowF (r : List Int) : Nat → Int := fun j => r.getD j 0
def valR (row : List (Int × Int)) : Vec := fun j => val (row.getD j (0, 1))
abbrev RowsA (rows : List (List Int)) : Vec → Prop := RowsOf (rows.map rowF)
/-- a row after the column c was cleared by the row step -/
def redR (w c : Nat) (step row : List (Int × Int)) : List (Int × Int) :=
  (List.range w).map fun j => nplus (row.getD j (0, 1)) (ntimes (ntimes (row.getD c (0, 1)) (nrm (-(step.getD c (0, 1)).2) (step.getD c (0, 1)).1)) (step.getD j (0, 1)))
structure LE (rows : List (List Int)) (w c : Nat) (M : List ((Nat → Int) × List (Int × Int))) (rs : List (Nat → Int)) (P : List Nat) : Prop where
  el : El rs P
  pc : ∀ p ∈ P, p < c
  src : ∀ q, (q ∈ rs ∨ ∃ x ∈ M, x.1 = q) ↔ q ∈ rows.map rowF
  cnt : rs.length + M.length = rows.length
  row : ∀ x ∈ M, x.2.length = w ∧ (∀ j, Red (x.2.getD j (0, 1))) ∧ (∃ v, Sp (RowsOf rs) v ∧ ∀ j, valR x.2 j = castV x.1 j + v j) ∧ ∀ j, j < c → valR x.2 j = 0
theorem LE.skip {rows : List (List Int)} {w c : Nat} {M : List ((Nat → Int) × List (Int × Int))} {rs : List (Nat → Int)} {P : List Nat} (h : LE rows w c M rs P) (hz : ∀ x ∈ M, (x.2.getD c (0, 1)).1 = 0) : LE rows w (c + 1) M rs P :=
  ⟨h.el, fun p hp => Nat.lt_succ_of_lt (h.pc p hp), h.src, h.cnt, fun x hx => by
    obtain ⟨a, b, d, e⟩ := h.row x hx
    refine ⟨a, b, d, fun j hj => ?_⟩
    by_cases hc : j < c
    · exact e j hc
    · have : j = c := by omega
      subst this
      exact (val_zero (b j).ne).mpr (hz x hx)⟩
theorem LE.step {rows : List (List Int)} {w c : Nat} {X Y : List ((Nat → Int) × List (Int × Int))} {s : (Nat → Int) × List (Int × Int)} {rs : List (Nat → Int)} {P : List Nat} (h : LE rows w c (X ++ s :: Y) rs P) (hc : c < w) (hs : (s.2.getD c (0, 1)).1 ≠ 0) :
    LE rows w (c + 1) ((X ++ Y).map fun x => (x.1, redR w c s.2 x.2)) (s.1 :: rs) (P ++ [c]) := by
  have ms : s ∈ X ++ s :: Y := List.mem_append_right _ (List.mem_cons_self ..)
  obtain ⟨sl, sr, ⟨sv, s1, s2⟩, s3⟩ := h.row s ms
  have hp0 : valR s.2 c ≠ 0 := fun z => hs ((val_zero (sr c).ne).mp z)
  have E := h.el.step s1 s2 (fun p hp => s3 p (h.pc p hp)) hp0
  refine ⟨E, fun p hp => ?_, fun q => ?_, ?_, fun y hy => ?_⟩
  · rcases List.mem_append.mp hp with hp | hp
    · exact Nat.lt_succ_of_lt (h.pc p hp)
    · rw [List.mem_singleton.mp hp]; exact Nat.lt_succ_self _
  · rw [← h.src q]
    constructor
    · rintro (a | ⟨y, hy, e⟩)
      · rcases List.mem_cons.mp a with a | a
        · exact .inr ⟨s, ms, a.symm⟩
        · exact .inl a
      · obtain ⟨x, hx, rfl⟩ := List.mem_map.mp hy
        refine .inr ⟨x, ?_, e⟩
        rcases List.mem_append.mp hx with hx | hx
        · exact List.mem_append_left _ hx
        · exact List.mem_append_right _ (List.mem_cons_of_mem _ hx)
    · rintro (a | ⟨x, hx, e⟩)
      · exact .inl (List.mem_cons_of_mem _ a)
      · rcases List.mem_append.mp hx with hx | hx
        · exact .inr ⟨_, List.mem_map.mpr ⟨x, List.mem_append_left _ hx, rfl⟩, e⟩
        · rcases List.mem_cons.mp hx with hx | hx
          · subst hx
            exact .inl (e ▸ List.mem_cons_self ..)
          · exact .inr ⟨_, List.mem_map.mpr ⟨x, List.mem_append_right _ hx, rfl⟩, e⟩
  · have := h.cnt
    simp only [List.length_append, List.length_cons, List.length_map] at this ⊢
    omega
  · obtain ⟨x, hx, rfl⟩ := List.mem_map.mp hy
    have mx : x ∈ X ++ s :: Y := by
      rcases List.mem_append.mp hx with hx | hx
      · exact List.mem_append_left _ hx
      · exact List.mem_append_right _ (List.mem_cons_of_mem _ hx)
    obtain ⟨xl, xr, ⟨xv, x1, x2⟩, x3⟩ := h.row x mx
    have hinv : Red (nrm (-(s.2.getD c (0, 1)).2) (s.2.getD c (0, 1)).1) := red_nrm hs
    have hsh := red_times (xr c) hinv
    have vsh : val (ntimes (x.2.getD c (0, 1)) (nrm (-(s.2.getD c (0, 1)).2) (s.2.getD c (0, 1)).1)) = -(valR x.2 c / valR s.2 c) := by
      rw [val_times (xr c).ne hinv.ne, val_nrm hs]
      have a1 := cast_ne hs
      have a2 := cast_ne (sr c).ne
      show val (x.2.getD c (0, 1)) * _ = -(val (x.2.getD c (0, 1)) / val (s.2.getD c (0, 1)))
      rw [Rat.intCast_neg]
      generalize val (x.2.getD c (0, 1)) = k
      unfold val
      grind
    have key : ∀ j, valR (redR w c s.2 x.2) j = valR x.2 j - (valR x.2 c / valR s.2 c) * valR s.2 j := fun j => by
      by_cases hj : j < w
      · have e : (redR w c s.2 x.2).getD j (0, 1) = nplus (x.2.getD j (0, 1)) (ntimes (ntimes (x.2.getD c (0, 1)) (nrm (-(s.2.getD c (0, 1)).2) (s.2.getD c (0, 1)).1)) (s.2.getD j (0, 1))) := by
          unfold redR
          rw [List.getD_eq_getElem?_getD, List.getElem?_map, List.getElem?_range hj]; rfl
        show val ((redR w c s.2 x.2).getD j (0, 1)) = _
        rw [e, val_plus (xr j).ne (red_times hsh (sr j)).ne, val_times hsh.ne (sr j).ne, vsh]
        show valR x.2 j + _ * valR s.2 j = _
        grind
      · have e0 : ∀ l : List (Int × Int), l.length = w → valR l j = 0 := fun l hl => by
          show val (l.getD j (0, 1)) = 0
          rw [List.getD_eq_getElem?_getD, List.getElem?_eq_none (by omega)]
          exact (val_zero (by decide)).mpr rfl
        rw [e0 _ (by unfold redR; rw [List.length_map, List.length_range]), e0 _ xl, e0 _ sl]; grind
    refine ⟨by show (redR w c s.2 x.2).length = w; unfold redR; rw [List.length_map, List.length_range], fun j => ?_, ⟨fun j => xv j - (valR x.2 c / valR s.2 c) * valR s.2 j, ?_, fun j => ?_⟩, fun j hj => ?_⟩
    · by_cases hj : j < w
      · show Red ((redR w c s.2 x.2).getD j (0, 1))
        unfold redR
        rw [List.getD_eq_getElem?_getD, List.getElem?_map, List.getElem?_range hj]
        exact red_plus (xr j) (red_times hsh (sr j))
      · show Red ((redR w c s.2 x.2).getD j (0, 1))
        rw [List.getD_eq_getElem?_getD, List.getElem?_eq_none (by unfold redR; rw [List.length_map, List.length_range]; omega)]
        exact ⟨by decide, by decide⟩
    · have hsv : Sp (RowsOf (s.1 :: rs)) (valR s.2) := Sp.of (.add (.mem ⟨s.1, List.mem_cons_self .., rfl⟩) (sp_cons s1)) fun j => (s2 j).symm
      exact sp_sub (sp_cons x1) (.smul _ hsv)
    · show valR (redR w c s.2 x.2) j = _
      rw [key, x2]; grind
    · show valR (redR w c s.2 x.2) j = 0
      rw [key]
      by_cases hj2 : j < c
      · rw [x3 j hj2, s3 j hj2]; grind
      · have : j = c := by omega
        subst this
        grind
theorem LE.done {rows : List (List Int)} {w : Nat} {M : List ((Nat → Int) × List (Int × Int))} {rs : List (Nat → Int)} {P : List Nat} (h : LE rows w w M rs P) : Rk (RowsA rows) rs.length := by
  refine ⟨h.el.lo.sub fun a ⟨r, hr, e⟩ => .mem ⟨r, (h.src r).mp (.inl hr), e⟩, (hi_rows rs).sub fun b ⟨r, hr, e⟩ => ?_⟩
  rcases (h.src r).mpr hr with a | ⟨x, hx, rfl⟩
  · exact .mem ⟨r, a, e⟩
  · obtain ⟨xl, xr, ⟨v, v1, v2⟩, x3⟩ := h.row x hx
    have z : ∀ j, valR x.2 j = 0 := fun j => by
      by_cases hj : j < w
      · exact x3 j hj
      · show val (x.2.getD j (0, 1)) = 0
        rw [List.getD_eq_getElem?_getD, List.getElem?_eq_none (by omega)]
        exact (val_zero (by decide)).mpr rfl
    refine Sp.of (.smul (-1) v1) fun j => ?_
    have := v2 j
    rw [z j] at this
    rw [e]; grind
/-- sizes of the numbers on the way -/
theorem LE.size {rows : List (List Int)} {w c B : Nat} {M : List ((Nat → Int) × List (Int × Int))} {rs : List (Nat → Int)} {P : List Nat} (h : LE rows w c M rs P) (hB : ∀ q ∈ rows.map rowF, ∀ j, (q j).natAbs ≤ B) {x : (Nat → Int) × List (Int × Int)} (hx : x ∈ M) (j : Nat) :
    (x.2.getD j (0, 1)).1.natAbs ≤ fac (rs.length + 1) * B ^ (rs.length + 1) ∧ (x.2.getD j (0, 1)).2.natAbs ≤ fac rs.length * B ^ rs.length := by
  obtain ⟨xl, xr, ⟨v, v1, v2⟩, x3⟩ := h.row x hx
  have cr := h.el.cramer v1 v2 (fun p hp => x3 p (h.pc p hp)) j
  have hrs : ∀ r ∈ rs, ∀ c, (r c).natAbs ≤ B := fun r hr => hB r ((h.src r).mp (.inl hr))
  have b1 := wedge_bound rs P hrs
  have b2 := wedge_bound (x.1 :: rs) (P ++ [j]) fun r hr => by
    rcases List.mem_cons.mp hr with rfl | hr
    · exact hB _ ((h.src _).mp (.inr ⟨x, hx, rfl⟩))
    · exact hrs r hr
  have hD : sg P * wedge rs P ≠ 0 := Int.mul_ne_zero (by rcases sg_ne P with e | e <;> omega) h.el.ne
  have hDa : (sg P * wedge rs P).natAbs = (wedge rs P).natAbs := by
    rw [Int.natAbs_mul]
    rcases sg_ne P with e | e <;> rw [e] <;> simp
  have e : (x.2.getD j (0, 1)).1 * (sg P * wedge rs P) = wedge (x.1 :: rs) (P ++ [j]) * (x.2.getD j (0, 1)).2 := by
    have h2 := cast_ne (xr j).ne
    have : (((x.2.getD j (0, 1)).1 * (sg P * wedge rs P) : Int) : Rat) = ((wedge (x.1 :: rs) (P ++ [j]) * (x.2.getD j (0, 1)).2 : Int) : Rat) := by
      rw [Rat.intCast_mul, Rat.intCast_mul (wedge _ _), ← cr]
      show _ = _ * ((((x.2.getD j (0, 1)).1 : Int) : Rat) / (((x.2.getD j (0, 1)).2 : Int) : Rat)) * _
      grind
    exact Rat.intCast_inj.mp this
  obtain ⟨l1, l2⟩ := low_bound (xr j).2 (xr j).1 hD e
  exact ⟨Nat.le_trans l2 b2, Nat.le_trans l1 (by rw [hDa]; exact b1)⟩
end DX

namespace DX
open Lin Wed Elim
/-! ### the elimination over integers, all rows cleared -/
def rsOf (rows : List (List Int)) (piv : List (Nat × Nat)) : List (Nat → Int) := piv.map fun a => rowF (rows.getD a.1 [])
def colsOf (piv : List (Nat × Nat)) : List Nat := (piv.map (·.2)).reverse
def Prim (x : List Int) : Prop := ∀ k : Nat, (∀ j, (k : Int) ∣ x.getD j 0) → k = 1
structure GJ (rows : List (List Int)) (w c : Nat) (cells : List (List Int)) (piv : List (Nat × Nat)) : Prop where
  el : El (rsOf rows piv) (colsOf piv)
  pc : ∀ a ∈ piv, a.2 < c ∧ a.1 < rows.length
  nd : (piv.map (·.1)).Nodup
  ndc : (piv.map (·.2)).Nodup
  len : cells.length = rows.length
  wid : ∀ x ∈ cells, x.length = w
  low : ∀ x ∈ cells, Prim x ∨ ∀ j, x.getD j 0 = 0
  loose : ∀ k, k < rows.length → k ∉ piv.map (·.1) → (∃ l v, l ≠ (0 : Rat) ∧ Sp (RowsOf (rsOf rows piv)) v ∧ ∀ j, l * castV (rowF (cells.getD k [])) j = castV (rowF (rows.getD k [])) j + v j) ∧ ∀ j, j < c → (cells.getD k []).getD j 0 = 0
  spent : ∀ a ∈ piv, Sp (RowsOf (rsOf rows piv)) (castV (rowF (cells.getD a.1 []))) ∧ (cells.getD a.1 []).getD a.2 0 ≠ 0 ∧ ∀ b ∈ piv, b.2 ≠ a.2 → (cells.getD a.1 []).getD b.2 0 = 0
theorem mem_cols {piv : List (Nat × Nat)} {p : Nat} : p ∈ colsOf piv ↔ ∃ a ∈ piv, a.2 = p := by
  unfold colsOf
  rw [List.mem_reverse, List.mem_map]
theorem castV_ne {r : Nat → Int} {j : Nat} (h : r j ≠ 0) : castV r j ≠ 0 := cast_ne h
theorem castV_zero {r : Nat → Int} {j : Nat} (h : r j = 0) : castV r j = 0 := by
  unfold castV
  rw [h]; rfl
/-- one row after the column was cleared from it -/
structure Swp (x y z : List Int) (c : Nat) : Prop where
  rel : ∃ g a b : Int, g ≠ 0 ∧ a ≠ 0 ∧ ∀ j, g * z.getD j 0 = a * x.getD j 0 - b * y.getD j 0
  nul : z.getD c 0 = 0
theorem Swp.self {x y : List Int} {c : Nat} (h : x.getD c 0 = 0) : Swp x y x c := ⟨⟨1, 1, 0, by decide, by decide, fun j => by omega⟩, h⟩
theorem Swp.vec {x y z : List Int} {c : Nat} (h : Swp x y z c) : ∃ m k : Rat, m ≠ 0 ∧ ∀ j, castV (rowF z) j = m * castV (rowF x) j + k * castV (rowF y) j := by
  obtain ⟨g, a, b, hg, ha, e⟩ := h.rel
  have g0 := cast_ne hg
  have a0 := cast_ne ha
  refine ⟨(a : Rat) / (g : Rat), -((b : Rat) / (g : Rat)), fun z => ?_, fun j => ?_⟩
  · have : (a : Rat) = 0 := by grind
    exact a0 this
  · have := congrArg (fun z : Int => (z : Rat)) (e j)
    simp only [Rat.intCast_sub, Rat.intCast_mul] at this
    show ((z.getD j 0 : Int) : Rat) = _ * ((x.getD j 0 : Int) : Rat) + _ * ((y.getD j 0 : Int) : Rat)
    grind
theorem GJ.skip {rows : List (List Int)} {w c : Nat} {cells : List (List Int)} {piv : List (Nat × Nat)} (h : GJ rows w c cells piv) (hz : ∀ k, k < rows.length → k ∉ piv.map (·.1) → (cells.getD k []).getD c 0 = 0) : GJ rows w (c + 1) cells piv :=
  ⟨h.el, fun a ha => ⟨Nat.lt_succ_of_lt (h.pc a ha).1, (h.pc a ha).2⟩, h.nd, h.ndc, h.len, h.wid, h.low, fun k hk hn => by
    obtain ⟨a, b⟩ := h.loose k hk hn
    refine ⟨a, fun j hj => ?_⟩
    by_cases hc : j < c
    · exact b j hc
    · have : j = c := by omega
      subst this
      exact hz k hk hn, h.spent⟩
theorem GJ.step {rows : List (List Int)} {w c at_ : Nat} {cells cells' : List (List Int)} {piv : List (Nat × Nat)} (h : GJ rows w c cells piv) (hat : at_ < rows.length) (hn : at_ ∉ piv.map (·.1)) (hp : (cells.getD at_ []).getD c 0 ≠ 0)
    (hl : cells'.length = rows.length) (hw : ∀ x ∈ cells', x.length = w) (hlow : ∀ x ∈ cells', Prim x ∨ ∀ j, x.getD j 0 = 0) (hsame : cells'.getD at_ [] = cells.getD at_ []) (hsw : ∀ k, k < rows.length → k ≠ at_ → Swp (cells.getD k []) (cells.getD at_ []) (cells'.getD k []) c) :
    GJ rows w (c + 1) cells' ((at_, c) :: piv) := by
  obtain ⟨⟨l, v, l0, lv, le⟩, lz⟩ := h.loose at_ hat hn
  have ln : ∀ a ∈ piv, (cells.getD at_ []).getD a.2 0 = 0 := fun a ha => lz _ (h.pc a ha).1
  -- the leader, in the new span
  have E : El (rsOf rows ((at_, c) :: piv)) (colsOf ((at_, c) :: piv)) := by
    have e1 : colsOf ((at_, c) :: piv) = colsOf piv ++ [c] := by
      unfold colsOf
      rw [List.map_cons, List.reverse_cons]
    rw [e1]
    exact h.el.step (q := rowF (rows.getD at_ [])) (u := fun j => l * castV (rowF (cells.getD at_ [])) j) lv le (fun p hp2 => by
      obtain ⟨a, ha, rfl⟩ := mem_cols.mp hp2
      rw [castV_zero (ln a ha)]; exact Rat.mul_zero _) (fun z => by
      rcases Rat.mul_eq_zero.mp z with z | z
      · exact l0 z
      · exact castV_ne hp z)
  have up : ∀ {v : Vec}, Sp (RowsOf (rsOf rows piv)) v → Sp (RowsOf (rsOf rows ((at_, c) :: piv))) v := fun hv => sp_cons hv
  have lead : Sp (RowsOf (rsOf rows ((at_, c) :: piv))) (castV (rowF (cells.getD at_ []))) := by
    have a := Sp.add (Sp.mem (A := RowsOf (rsOf rows ((at_, c) :: piv))) ⟨rowF (rows.getD at_ []), List.mem_cons_self .., rfl⟩) (up lv)
    refine Sp.of (.smul (1 / l) a) fun j => ?_
    have := le j
    show 1 / l * (castV (rowF (rows.getD at_ [])) j + v j) = _
    rw [← this]; grind
  refine ⟨E, fun a ha => ?_, ?_, ?_, hl, hw, hlow, fun k hk hkn => ?_, fun a ha => ?_⟩
  · rcases List.mem_cons.mp ha with rfl | ha
    · exact ⟨Nat.lt_succ_self _, hat⟩
    · exact ⟨Nat.lt_succ_of_lt (h.pc a ha).1, (h.pc a ha).2⟩
  · exact List.nodup_cons.mpr ⟨hn, h.nd⟩
  · refine List.nodup_cons.mpr ⟨fun z => ?_, h.ndc⟩
    obtain ⟨a, ha, e⟩ := List.mem_map.mp z
    have := (h.pc a ha).1
    have e : a.2 = c := e
    omega
  · rw [List.map_cons, List.mem_cons] at hkn
    have hk1 : k ≠ at_ := fun e => hkn (.inl e)
    have hk2 : k ∉ piv.map (·.1) := fun e => hkn (.inr e)
    obtain ⟨⟨m, u, m0, mu, me⟩, mz⟩ := h.loose k hk hk2
    have sw := hsw k hk hk1
    obtain ⟨t, s, t0, ts⟩ := sw.vec
    refine ⟨⟨m / t, fun j => u j + (m / t * s) * castV (rowF (cells.getD at_ [])) j, fun z => ?_, .add (up mu) (.smul _ lead), fun j => ?_⟩, fun j hj => ?_⟩
    · have : m = 0 := by grind
      exact m0 this
    · rw [ts j]
      have := me j
      grind
    · by_cases hjc : j = c
      · subst hjc; exact sw.nul
      · obtain ⟨g, a, b, hg, ha, e⟩ := sw.rel
        have := e j
        rw [mz j (by omega), lz j (by omega)] at this
        rcases Int.mul_eq_zero.mp (show g * (cells'.getD k []).getD j 0 = 0 by omega) with z | z
        · exact absurd z hg
        · exact z
  · rcases List.mem_cons.mp ha with rfl | ha
    · rw [hsame]
      refine ⟨lead, hp, fun b hb hne => ?_⟩
      rcases List.mem_cons.mp hb with rfl | hb
      · exact absurd rfl hne
      · exact ln b hb
    · obtain ⟨s1, s2, s3⟩ := h.spent a ha
      have hne : a.1 ≠ at_ := fun e => hn (List.mem_map.mpr ⟨a, ha, e⟩)
      have sw := hsw a.1 (h.pc a ha).2 hne
      obtain ⟨t, s, t0, ts⟩ := sw.vec
      obtain ⟨g, x, y, hg, hx, e⟩ := sw.rel
      refine ⟨Sp.of (.add (.smul t (up s1)) (.smul s lead)) fun j => (ts j).symm, fun z => ?_, fun b hb hbn => ?_⟩
      · have := e a.2
        rw [z, ln a ha] at this
        rcases Int.mul_eq_zero.mp (show x * (cells.getD a.1 []).getD a.2 0 = 0 by omega) with z | z
        · exact hx z
        · exact s2 z
      · rcases List.mem_cons.mp hb with rfl | hb
        · exact sw.nul
        · have := e b.2
          rw [s3 b hb hbn, ln b hb] at this
          rcases Int.mul_eq_zero.mp (show g * (cells'.getD a.1 []).getD b.2 0 = 0 by omega) with z | z
          · exact absurd z hg
          · exact z
/-- the rank, when all columns are done -/
theorem GJ.done {rows : List (List Int)} {w : Nat} {cells : List (List Int)} {piv : List (Nat × Nat)} (h : GJ rows w w cells piv) : Rk (RowsA rows) piv.length := by
  have hl : (rsOf rows piv).length = piv.length := by unfold rsOf; rw [List.length_map]
  have sub : ∀ r, r ∈ rsOf rows piv → r ∈ rows.map rowF := fun r hr => by
    obtain ⟨a, ha, rfl⟩ := List.mem_map.mp hr
    have hk := (h.pc a ha).2
    rw [List.getD_eq_getElem?_getD, List.getElem?_eq_getElem hk]
    exact List.mem_map.mpr ⟨_, List.getElem_mem hk, rfl⟩
  rw [← hl]
  refine ⟨h.el.lo.sub fun a ⟨r, hr, e⟩ => .mem ⟨r, sub r hr, e⟩, (hi_rows _).sub fun b ⟨r, hr, e⟩ => ?_⟩
  obtain ⟨x, hx, rfl⟩ := List.mem_map.mp hr
  obtain ⟨k, hk, rfl⟩ := List.mem_iff_getElem.mp hx
  have ek : rows.getD k [] = rows[k] := by rw [List.getD_eq_getElem?_getD, List.getElem?_eq_getElem hk]; rfl
  by_cases hs : k ∈ piv.map (·.1)
  · obtain ⟨a, ha, e2⟩ := List.mem_map.mp hs
    refine .mem ⟨_, List.mem_map.mpr ⟨a, ha, rfl⟩, ?_⟩
    have e2 : a.1 = k := e2
    rw [e, e2, ek]
  · obtain ⟨⟨l, v, l0, lv, le⟩, lz⟩ := h.loose k hk hs
    refine Sp.of (.smul (-1) lv) fun j => ?_
    have a := le j
    have z : (cells.getD k []).getD j 0 = 0 := by
      by_cases hj : j < w
      · exact lz j hj
      · have hck : k < cells.length := by rw [h.len]; exact hk
        have ec : cells.getD k [] = cells[k] := by rw [List.getD_eq_getElem?_getD, List.getElem?_eq_getElem hck]; rfl
        rw [ec, List.getD_eq_getElem?_getD, List.getElem?_eq_none (by rw [h.wid _ (List.getElem_mem hck)]; omega)]; rfl
    rw [castV_zero (r := rowF (cells.getD k [])) z, ek] at a
    rw [e]; grind
end DX

namespace DX
open Lin Wed Elim
theorem fac_pos : ∀ n, 0 < fac n
  | 0 => Nat.one_pos
  | n + 1 => Nat.mul_pos (Nat.succ_pos n) (fac_pos n)
theorem facB_mono {B : Nat} (hB : 0 < B) {a b : Nat} (h : a ≤ b) : fac a * B ^ a ≤ fac b * B ^ b := by
  induction b with
  | zero => rw [Nat.le_zero.mp h]; exact Nat.le_refl _
  | succ b ih =>
    by_cases e : a ≤ b
    · refine Nat.le_trans (ih e) ?_
      refine Nat.mul_le_mul ?_ (Nat.pow_le_pow_right hB (Nat.le_succ b))
      exact Nat.le_mul_of_pos_left _ (Nat.succ_pos b)
    · have : a = b + 1 := by omega
      rw [this]; exact Nat.le_refl _
theorem rat_parts (l : Rat) : l * (((l.den : Nat) : Int) : Rat) = (l.num : Rat) := by
  have e : (l.num : Rat) / (((l.den : Nat) : Int) : Rat) = l := by
    rw [← Rat.divInt_eq_div]; exact Rat.num_divInt_den l
  have h : (((l.den : Nat) : Int) : Rat) ≠ 0 := cast_ne (by have := l.den_pos; omega)
  generalize (((l.den : Nat) : Int) : Rat) = d at *
  rw [← e]; grind
theorem GJ.size {rows : List (List Int)} {w c B : Nat} {cells : List (List Int)} {piv : List (Nat × Nat)} (h : GJ rows w c cells piv) (hB0 : 0 < B) (hB : ∀ r ∈ rows, ∀ j, (r.getD j 0).natAbs ≤ B) {x : List Int} (hx : x ∈ cells) (j : Nat) :
    (x.getD j 0).natAbs ≤ fac (rows.length + 1) * B ^ (rows.length + 1) := by
  obtain ⟨k, hk, rfl⟩ := List.mem_iff_getElem.mp hx
  have hk2 : k < rows.length := by rw [← h.len]; exact hk
  have ec : cells.getD k [] = cells[k] := by rw [List.getD_eq_getElem?_getD, List.getElem?_eq_getElem hk]; rfl
  have hrow : ∀ i, i < rows.length → ∀ c, (rowF (rows.getD i []) c).natAbs ≤ B := fun i hi c => by
    rw [List.getD_eq_getElem?_getD, List.getElem?_eq_getElem hi]
    exact hB _ (List.getElem_mem hi) c
  have hrs : ∀ r ∈ rsOf rows piv, ∀ c, (r c).natAbs ≤ B := fun r hr c => by
    obtain ⟨a, ha, rfl⟩ := List.mem_map.mp hr
    exact hrow _ (h.pc a ha).2 c
  have hlen : (rsOf rows piv).length ≤ rows.length := by
    have h1 : (piv.map (·.1)).length ≤ (List.range rows.length).length := h.nd.length_le_of_subset fun k hk => by
      obtain ⟨a, ha, e⟩ := List.mem_map.mp hk
      exact List.mem_range.mpr (e ▸ (h.pc a ha).2)
    rw [List.length_map, List.length_range] at h1
    unfold rsOf
    rw [List.length_map]
    exact h1
  rcases h.low _ hx with prim | zero
  · by_cases hs : k ∈ piv.map (·.1)
    · obtain ⟨a, ha, e⟩ := List.mem_map.mp hs
      have e : a.1 = k := e
      obtain ⟨s1, s2, s3⟩ := h.spent a ha
      rw [e, ec] at s1 s2 s3
      have hm : a.2 ∈ colsOf piv := mem_cols.mpr ⟨a, ha, rfl⟩
      obtain ⟨X, Y, eP⟩ := List.append_of_mem hm
      have key : ∀ j, wedge (rsOf rows piv) (colsOf piv) * (cells[k].getD j 0) = (cells[k].getD a.2 0) * wedge (rsOf rows piv) (X ++ j :: Y) := by
        have hcomb : Sp (RowsOf (rsOf rows piv)) (castV fun j => wedge (rsOf rows piv) (X ++ j :: Y)) := by
          refine Sp.of (.smul (((-1) ^ Y.length : Int) : Rat) (wedge_sp (rsOf rows piv) (X ++ Y))) fun j => ?_
          show (((-1) ^ Y.length : Int) : Rat) * ((wedge _ (X ++ Y ++ [j]) : Int) : Rat) = ((wedge _ (X ++ j :: Y) : Int) : Rat)
          rw [(wedge_ant _).move j Y X, Rat.intCast_mul]
        have z := h.el.inj (fun j => ((wedge (rsOf rows piv) (colsOf piv) : Int) : Rat) * castV (rowF cells[k]) j - ((cells[k].getD a.2 0 : Int) : Rat) * castV (fun j => wedge (rsOf rows piv) (X ++ j :: Y)) j) (sp_sub (.smul _ s1) (.smul _ hcomb)) fun p hp => by
          by_cases hpa : p = a.2
          · subst hpa
            show ((wedge _ (colsOf piv) : Int) : Rat) * ((cells[k].getD a.2 0 : Int) : Rat) - ((cells[k].getD a.2 0 : Int) : Rat) * ((wedge _ (X ++ a.2 :: Y) : Int) : Rat) = 0
            rw [← eP]; grind
          · obtain ⟨b, hb, e2⟩ := mem_cols.mp hp
            have e3 : cells[k].getD p 0 = 0 := by rw [← e2]; exact s3 b hb (by rw [e2]; exact hpa)
            have e4 : wedge (rsOf rows piv) (X ++ p :: Y) = 0 := by
              rw [eP] at hp
              rcases List.mem_append.mp hp with hp | hp
              · obtain ⟨X1, X2, rfl⟩ := List.append_of_mem hp
                rw [List.append_assoc]
                exact (wedge_ant _).dup p X2 X1 Y
              · rcases List.mem_cons.mp hp with hp | hp
                · exact absurd hp hpa
                · obtain ⟨Y1, Y2, rfl⟩ := List.append_of_mem hp
                  exact (wedge_ant _).dup p Y1 X Y2
            rw [castV_zero (r := rowF cells[k]) e3, castV_zero (r := fun j => wedge (rsOf rows piv) (X ++ j :: Y)) e4]; grind
        intro j
        have := z j
        have h2 : ((wedge (rsOf rows piv) (colsOf piv) * (cells[k].getD j 0) : Int) : Rat) = (((cells[k].getD a.2 0) * wedge (rsOf rows piv) (X ++ j :: Y) : Int) : Rat) := by
          rw [Rat.intCast_mul, Rat.intCast_mul]
          show _ * castV (rowF cells[k]) j = _ * castV (fun j => wedge (rsOf rows piv) (X ++ j :: Y)) j
          grind
        exact Rat.intCast_inj.mp h2
      refine Nat.le_trans (prim_bound (x := fun j => cells[k].getD j 0) (v := fun j => wedge (rsOf rows piv) (X ++ j :: Y)) s2 h.el.ne key prim j) ?_
      exact Nat.le_trans (wedge_bound _ _ hrs) (facB_mono hB0 (by omega))
    · obtain ⟨⟨l, v, l0, lv, le⟩, lz⟩ := h.loose k hk2 hs
      rw [ec] at le lz
      have cr : ∀ j, _ := fun j => h.el.cramer (q := rowF (rows.getD k [])) (u := fun j => l * castV (rowF cells[k]) j) lv le (fun p hp => by
        obtain ⟨a, ha, rfl⟩ := mem_cols.mp hp
        rw [castV_zero (r := rowF cells[k]) (lz _ (h.pc a ha).1)]; exact Rat.mul_zero _) j
      have hnum : l.num ≠ 0 := fun z => l0 (Rat.num_eq_zero.mp z)
      have hden : (l.den : Int) ≠ 0 := by have := l.den_pos; omega
      have hsg : sg (colsOf piv) * wedge (rsOf rows piv) (colsOf piv) ≠ 0 := Int.mul_ne_zero (by rcases sg_ne (colsOf piv) with e | e <;> omega) h.el.ne
      have key : ∀ j, (sg (colsOf piv) * wedge (rsOf rows piv) (colsOf piv) * l.num) * (cells[k].getD j 0) = (l.den : Int) * wedge (rowF (rows.getD k []) :: rsOf rows piv) (colsOf piv ++ [j]) := fun j => by
        have a := cr j
        have b := rat_parts l
        have h2 : (((sg (colsOf piv) * wedge (rsOf rows piv) (colsOf piv) * l.num) * (cells[k].getD j 0) : Int) : Rat) = (((l.den : Int) * wedge (rowF (rows.getD k []) :: rsOf rows piv) (colsOf piv ++ [j]) : Int) : Rat) := by
          rw [Rat.intCast_mul, Rat.intCast_mul (_ * _) l.num, Rat.intCast_mul (l.den : Int), ← a, ← b]
          show _ * (l * _) * castV (rowF cells[k]) j = ((l.den : Int) : Rat) * (_ * (l * castV (rowF cells[k]) j))
          grind
        exact Rat.intCast_inj.mp h2
      refine Nat.le_trans (prim_bound (x := fun j => cells[k].getD j 0) (v := fun j => wedge (rowF (rows.getD k []) :: rsOf rows piv) (colsOf piv ++ [j])) hden (Int.mul_ne_zero hsg hnum) key prim j) ?_
      refine Nat.le_trans (wedge_bound _ _ fun r hr c => ?_) (facB_mono hB0 (by rw [List.length_cons]; omega))
      rcases List.mem_cons.mp hr with rfl | hr
      · exact hrow k hk2 c
      · exact hrs r hr c
  · rw [zero j]
    exact Nat.zero_le _
end DX

namespace Frm
/-- no factor but 1 and itself -/
def Pr (q : Nat) : Prop := 2 ≤ q ∧ ∀ d, d ∣ q → d = 1 ∨ d = q
theorem Pr.euclid {q a b : Nat} (h : Pr q) (hd : q ∣ a * b) : q ∣ a ∨ q ∣ b := by
  rcases h.2 _ (Nat.gcd_dvd_left q a) with e | e
  · exact .inr (Nat.Coprime.dvd_of_dvd_mul_left e hd)
  · exact .inl (e ▸ Nat.gcd_dvd_right q a)
def C : Nat → Nat → Nat
  | _, 0 => 1
  | 0, _ + 1 => 0
  | n + 1, k + 1 => C n k + C n (k + 1)
theorem C_over : ∀ (n k : Nat), n < k → C n k = 0
  | 0, k + 1, _ => rfl
  | n + 1, k + 1, h => by rw [C, C_over n k (by omega), C_over n (k + 1) (by omega)]
theorem C_self : ∀ n, C n n = 1
  | 0 => rfl
  | n + 1 => by rw [C, C_self n, C_over n (n + 1) (by omega)]
theorem C_abs : ∀ n k, (k + 1) * C (n + 1) (k + 1) = (n + 1) * C n k
  | 0, 0 => rfl
  | 0, k + 1 => by rw [C_over 1 (k + 2) (by omega), C_over 0 (k + 1) (by omega), Nat.mul_zero, Nat.mul_zero]
  | n + 1, 0 => by
    have := C_abs n 0
    rw [C]
    simp only [C] at *
    omega
  | n + 1, k + 1 => by
    have a := C_abs n k
    have b := C_abs n (k + 1)
    have e1 : C (n + 2) (k + 2) = C (n + 1) (k + 1) + C (n + 1) (k + 2) := rfl
    have e2 : C (n + 1) (k + 1) = C n k + C n (k + 1) := rfl
    rw [show n + 1 + 1 = n + 2 by rfl, show k + 1 + 1 = k + 2 by rfl] at *
    rw [e1, Nat.mul_add, b]
    rw [show (k + 2) * C (n + 1) (k + 1) = (k + 1) * C (n + 1) (k + 1) + C (n + 1) (k + 1) by rw [Nat.add_mul (k + 1) 1, Nat.one_mul], a, e2]
    rw [Nat.add_mul (n + 1) 1, Nat.one_mul, Nat.mul_add]
    omega
def sm : Nat → (Nat → Nat) → Nat
  | 0, _ => 0
  | n + 1, f => sm n f + f n
theorem sm_front (f : Nat → Nat) : ∀ n, sm (n + 1) f = f 0 + sm n fun i => f (i + 1)
  | 0 => by show 0 + f 0 = f 0 + 0; omega
  | n + 1 => by
    rw [sm, sm_front f n]
    show _ = f 0 + (sm n (fun i => f (i + 1)) + f (n + 1))
    omega
theorem sm_add (f g : Nat → Nat) : ∀ n, sm n (fun i => f i + g i) = sm n f + sm n g
  | 0 => rfl
  | n + 1 => by
    show sm n _ + (f n + g n) = (sm n f + f n) + (sm n g + g n)
    rw [sm_add f g n]; omega
theorem sm_mul (c : Nat) (f : Nat → Nat) : ∀ n, sm n (fun i => c * f i) = c * sm n f
  | 0 => rfl
  | n + 1 => by
    show sm n _ + _ = c * (sm n f + f n)
    rw [sm_mul c f n, Nat.mul_add]
theorem sm_congr {f g : Nat → Nat} : ∀ n, (∀ i, i < n → f i = g i) → sm n f = sm n g
  | 0, _ => rfl
  | n + 1, h => by
    show sm n f + f n = sm n g + g n
    rw [sm_congr n fun i hi => h i (by omega), h n (by omega)]
theorem binom (x : Nat) : ∀ n, (x + 1) ^ n = sm (n + 1) fun k => C n k * x ^ k
  | 0 => rfl
  | n + 1 => by
    rw [Nat.pow_succ, binom x n, sm_front (fun k => C (n + 1) k * x ^ k)]
    have e : sm (n + 1) (fun k => C (n + 1) (k + 1) * x ^ (k + 1)) = sm (n + 1) (fun k => x * (C n k * x ^ k)) + sm (n + 1) (fun k => C n (k + 1) * x ^ (k + 1)) := by
      rw [← sm_add]
      refine sm_congr _ fun k _ => ?_
      show (C n k + C n (k + 1)) * x ^ (k + 1) = _
      rw [Nat.add_mul, Nat.pow_succ, ← Nat.mul_assoc, Nat.mul_comm (C n k * x ^ k) x]
    rw [e, sm_mul, Nat.mul_add, Nat.mul_one, Nat.mul_comm _ x]
    have e3 : sm (n + 1) (fun k => C n (k + 1) * x ^ (k + 1)) = sm n fun k => C n (k + 1) * x ^ (k + 1) := by
      show sm n _ + C n (n + 1) * x ^ (n + 1) = _
      rw [C_over n (n + 1) (by omega), Nat.zero_mul, Nat.add_zero]
    have e4 : sm (n + 1) (fun k => C n k * x ^ k) = 1 + sm n fun k => C n (k + 1) * x ^ (k + 1) := by
      rw [sm_front]
      show C n 0 * x ^ 0 + _ = _
      rw [Nat.pow_zero, Nat.mul_one]
      cases n <;> rfl
    rw [e3]
    show _ = C (n + 1) 0 * x ^ 0 + _
    rw [Nat.pow_zero, Nat.mul_one]
    show _ = 1 + _
    omega
theorem sm_dvd {q : Nat} {f : Nat → Nat} : ∀ n, (∀ i, i < n → q ∣ f i) → q ∣ sm n f
  | 0, _ => ⟨0, rfl⟩
  | n + 1, h => Nat.dvd_add (sm_dvd n fun i hi => h i (by omega)) (h n (by omega))
theorem C_dvd {q k : Nat} (h : Pr q) (h0 : 0 < k) (hk : k < q) : q ∣ C q k := by
  obtain ⟨m, rfl⟩ : ∃ m, q = m + 1 := ⟨q - 1, by have := h.1; omega⟩
  obtain ⟨l, rfl⟩ : ∃ l, k = l + 1 := ⟨k - 1, by omega⟩
  rcases h.euclid (show m + 1 ∣ (l + 1) * C (m + 1) (l + 1) from ⟨C m l, C_abs m l⟩) with d | d
  · exact absurd (Nat.le_of_dvd (by omega) d) (by omega)
  · exact d
theorem fermat {q : Nat} (h : Pr q) : ∀ x, x ^ q % q = x % q
  | 0 => by rw [Nat.zero_pow (by have := h.1; omega)]
  | x + 1 => by
    obtain ⟨m, hm⟩ : ∃ m, q = m + 1 := ⟨q - 1, by have := h.1; omega⟩
    have ih := fermat h x
    have b := binom x q
    rw [sm, show C q q * x ^ q = x ^ q by rw [C_self, Nat.one_mul]] at b
    have b2 : sm q (fun k => C q k * x ^ k) = 1 + sm m fun k => C q (k + 1) * x ^ (k + 1) := by
      rw [hm, sm_front]
      rfl
    have d : q ∣ sm m fun k => C q (k + 1) * x ^ (k + 1) := sm_dvd m fun i hi => Nat.dvd_trans (C_dvd h (by omega) (by omega)) (Nat.dvd_mul_right _ _)
    obtain ⟨t, ht⟩ := d
    rw [b, b2, ht, show 1 + q * t + x ^ q = x ^ q + 1 + q * t by omega, Nat.add_mul_mod_self_left, Nat.add_mod, ih, ← Nat.add_mod]
end Frm

namespace Frm
theorem one_mod {q x : Nat} (h : Pr q) (e : x % q = 1) (n : Nat) : x ^ n % q = 1 := by
  have h2 := h.1
  rw [Nat.pow_mod, e, Nat.one_pow, Nat.mod_eq_of_lt (by omega)]
theorem pow_gcd {q b : Nat} (h : Pr q) : ∀ m n : Nat, b ^ m % q = 1 → b ^ n % q = 1 → b ^ Nat.gcd m n % q = 1 := fun m n => by
  refine Nat.gcd.induction (P := fun m n => b ^ m % q = 1 → b ^ n % q = 1 → b ^ Nat.gcd m n % q = 1) m n (fun n _ h2 => by rw [Nat.gcd_zero_left]; exact h2) fun m n hm ih h1 h2 => ?_
  rw [Nat.gcd_rec]
  refine ih ?_ h1
  rw [← Nat.mod_add_div n m, Nat.pow_add, Nat.pow_mul, Nat.mul_mod, one_mod h h1, Nat.mul_one, Nat.mod_mod] at h2
  exact h2
theorem fermat1 {q b : Nat} (h : Pr q) (hb : ¬ q ∣ b) : b ^ (q - 1) % q = 1 := by
  obtain ⟨m, rfl⟩ : ∃ m, q = m + 1 := ⟨q - 1, by have := h.1; omega⟩
  rw [Nat.add_sub_cancel]
  have b0 : 0 < b := Nat.pos_of_ne_zero fun z => hb (z ▸ ⟨0, rfl⟩)
  have p1 : 1 ≤ b ^ m := Nat.pow_pos b0
  have e := fermat h b
  have d : m + 1 ∣ b * (b ^ m - 1) := by
    have e2 : b * (b ^ m - 1) = b ^ (m + 1) - b := by rw [Nat.mul_sub, Nat.mul_one, Nat.pow_succ']
    rw [e2]
    exact Nat.dvd_of_mod_eq_zero (Nat.sub_mod_eq_zero_of_mod_eq e)
  rcases h.euclid d with z | z
  · exact absurd z hb
  · obtain ⟨t, ht⟩ := z
    rw [show b ^ m = 1 + (m + 1) * t by omega, Nat.add_mul_mod_self_left, Nat.mod_eq_of_lt (by have := h.1; omega)]
theorem pock {q b f N : Nat} (h : Pr q) (hN : q ∣ N) (hf : Pr f) (h1 : b ^ f % N = 1) (hN1 : 1 < N) (hg : Nat.gcd (b - 1) N = 1) (hb : 1 ≤ b) : f ∣ q - 1 := by
  have hq := h.1
  have e : b ^ f % q = 1 := by
    rw [← Nat.mod_mod_of_dvd _ hN, h1, Nat.mod_eq_of_lt (by omega)]
  have nb : ¬ q ∣ b := fun z => by
    have : b ^ f % q = 0 := Nat.mod_eq_zero_of_dvd (by
      obtain ⟨l, rfl⟩ : ∃ l, f = l + 1 := ⟨f - 1, by have := hf.1; omega⟩
      rw [Nat.pow_succ]
      exact Nat.dvd_trans z (Nat.dvd_mul_left _ _))
    omega
  have g := pow_gcd h f (q - 1) e (fermat1 h nb)
  rcases hf.2 _ (Nat.gcd_dvd_left f (q - 1)) with z | z
  · rw [z, Nat.pow_one] at g
    have d : q ∣ b - 1 := ⟨b / q, by have := Nat.mod_add_div b q; omega⟩
    have := Nat.dvd_gcd d hN
    rw [hg] at this
    exact absurd (Nat.le_of_dvd (by decide) this) (by omega)
  · rw [← z]; exact Nat.gcd_dvd_right _ _
theorem least (N : Nat) (hN : 2 ≤ N) : ∃ q, 2 ≤ q ∧ q ∣ N ∧ ∀ d, 2 ≤ d → d ∣ N → q ≤ d := by
  apply Classical.byContradiction
  intro no
  have key : ∀ n d, d ≤ n → 2 ≤ d → ¬ d ∣ N := by
    intro n
    induction n with
    | zero => intro d h1 h2; omega
    | succ n ih =>
      intro d h1 h2 hd
      apply no
      refine ⟨d, h2, hd, fun e e2 ed => ?_⟩
      apply Classical.byContradiction
      intro z
      exact ih e (by omega) e2 ed
  exact key N N (Nat.le_refl _) hN (Nat.dvd_refl _)
theorem least_pr {q N : Nat} (h2 : 2 ≤ q) (hd : q ∣ N) (hm : ∀ d, 2 ≤ d → d ∣ N → q ≤ d) : Pr q := ⟨h2, fun d dd => by
  have d0 : 0 < d := Nat.pos_of_dvd_of_pos dd (by omega)
  have dl := Nat.le_of_dvd (by omega) dd
  by_cases e : d = 1
  · exact .inl e
  · right
    have := hm d (by omega) (Nat.dvd_trans dd hd)
    omega⟩
def MP : Nat := 2305843009213693951
theorem pr1321 : Pr 1321 := ⟨by decide, fun d hd => by
  have hl := Nat.le_of_dvd (by decide) hd
  have key : ∀ d, d < 1322 → d ∣ 1321 → d = 1 ∨ d = 1321 := by decide +kernel
  exact key d (by omega) hd⟩
theorem pr331 : Pr 331 := ⟨by decide, fun d hd => by
  have hl := Nat.le_of_dvd (by decide) hd
  have key : ∀ d, d < 332 → d ∣ 331 → d = 1 ∨ d = 331 := by decide +kernel
  exact key d (by omega) hd⟩
theorem pr151 : Pr 151 := ⟨by decide, fun d hd => by
  have hl := Nat.le_of_dvd (by decide) hd
  have key : ∀ d, d < 152 → d ∣ 151 → d = 1 ∨ d = 151 := by decide +kernel
  exact key d (by omega) hd⟩
theorem pr61 : Pr 61 := ⟨by decide, fun d hd => by
  have hl := Nat.le_of_dvd (by decide) hd
  have key : ∀ d, d < 62 → d ∣ 61 → d = 1 ∨ d = 61 := by decide +kernel
  exact key d (by omega) hd⟩
theorem from4 {N F f1 f2 f3 f4 b1 b2 b3 b4 : Nat} (hN : 2 ≤ N) (c : N < F * F) (hF : F = f1 * f2 * f3 * f4) (q1 : Pr f1) (q2 : Pr f2) (q3 : Pr f3) (q4 : Pr f4)
    (k1 : Nat.Coprime f1 f2) (k2 : Nat.Coprime (f1 * f2) f3) (k3 : Nat.Coprime (f1 * f2 * f3) f4)
    (p1 : b1 ^ f1 % N = 1) (g1 : Nat.gcd (b1 - 1) N = 1) (o1 : 1 ≤ b1) (p2 : b2 ^ f2 % N = 1) (g2 : Nat.gcd (b2 - 1) N = 1) (o2 : 1 ≤ b2) (p3 : b3 ^ f3 % N = 1) (g3 : Nat.gcd (b3 - 1) N = 1) (o3 : 1 ≤ b3) (p4 : b4 ^ f4 % N = 1) (g4 : Nat.gcd (b4 - 1) N = 1) (o4 : 1 ≤ b4) : Pr N := by
  obtain ⟨q, h2, hd, hm⟩ := least N hN
  have hq := least_pr h2 hd hm
  have d1 : f1 ∣ q - 1 := pock hq hd q1 p1 hN g1 o1
  have d2 : f2 ∣ q - 1 := pock hq hd q2 p2 hN g2 o2
  have d3 : f3 ∣ q - 1 := pock hq hd q3 p3 hN g3 o3
  have d4 : f4 ∣ q - 1 := pock hq hd q4 p4 hN g4 o4
  have e3 := Nat.Coprime.mul_dvd_of_dvd_of_dvd k3 (Nat.Coprime.mul_dvd_of_dvd_of_dvd k2 (Nat.Coprime.mul_dvd_of_dvd_of_dvd k1 d1 d2) d3) d4
  rw [← hF] at e3
  have e4 : F ≤ q - 1 := Nat.le_of_dvd (by omega) e3
  obtain ⟨m, hm2⟩ := hd
  by_cases m1 : m = 1
  · rw [m1, Nat.mul_one] at hm2
    rw [hm2]; exact hq
  · exfalso
    have m0 : m ≠ 0 := fun z => by rw [z, Nat.mul_zero] at hm2; omega
    have := hm m (by omega) ⟨q, by rw [hm2, Nat.mul_comm]⟩
    have s : F * F ≤ q * m := Nat.mul_le_mul (by omega) (by omega)
    rw [← hm2] at s
    omega
theorem mp_prime : Pr MP := from4 (F := 4027518961) (b1 := 234060095121088422) (b2 := 1491285494954315879) (b3 := 2211238755008147949) (b4 := 1125899906842624) (by decide +kernel) (by decide +kernel) (by decide +kernel) pr1321 pr331 pr151 pr61 (by decide +kernel) (by decide +kernel) (by decide +kernel) (by decide +kernel) (by decide +kernel) (by decide +kernel) (by decide +kernel) (by decide +kernel) (by decide +kernel) (by decide +kernel) (by decide +kernel) (by decide +kernel) (by decide +kernel) (by decide +kernel) (by decide +kernel)
end Frm

namespace Modp
open Lin Wed Elim Frm
/-- sums of integers -/
def sI : Nat → (Nat → Int) → Int
  | 0, _ => 0
  | n + 1, f => sI n f + f n
theorem sI_cast : ∀ (n : Nat) (f : Nat → Int), ((sI n f : Int) : Rat) = S n fun i => (f i : Rat)
  | 0, _ => rfl
  | n + 1, f => by
    show ((sI n f + f n : Int) : Rat) = S n (fun i => (f i : Rat)) + (f n : Rat)
    rw [Rat.intCast_add, sI_cast n f]
theorem sI_dvd {p : Int} {f : Nat → Int} : ∀ n, (∀ i, i < n → p ∣ f i) → p ∣ sI n f
  | 0, _ => ⟨0, by simp [sI]⟩
  | n + 1, h => Int.dvd_add (sI_dvd n fun i hi => h i (by omega)) (h n (by omega))
theorem sI_one {p : Int} {f : Nat → Int} {i : Nat} : ∀ n, i < n → (∀ k, k < n → k ≠ i → p ∣ f k) → p ∣ sI n f - f i
  | 0, h, _ => absurd h (Nat.not_lt_zero _)
  | n + 1, h, hk => by
    show p ∣ sI n f + f n - f i
    by_cases e : i = n
    · subst e
      have := sI_dvd i fun k hk' => hk k (by omega) (by omega)
      have e2 : sI i f + f i - f i = sI i f := by omega
      rw [e2]; exact this
    · have h1 := sI_one n (by omega) fun k hk' => hk k (by omega)
      have h2 := hk n (by omega) (fun z => e z.symm)
      have e2 : sI n f + f n - f i = (sI n f - f i) + f n := by omega
      rw [e2]; exact Int.dvd_add h1 h2
theorem sI_mul {c : Int} {f : Nat → Int} : ∀ n, sI n (fun i => c * f i) = c * sI n f
  | 0 => by simp [sI]
  | n + 1 => by
    show sI n (fun i => c * f i) + c * f n = c * (sI n f + f n)
    rw [sI_mul n, Int.mul_add]
theorem euclidI {p : Nat} (hp : Pr p) {a b : Int} (h : (p : Int) ∣ a * b) (hb : ¬ (p : Int) ∣ b) : (p : Int) ∣ a := by
  have h1 : p ∣ a.natAbs * b.natAbs := by
    have := Int.natAbs_dvd_natAbs.mpr h
    rwa [Int.natAbs_natCast, Int.natAbs_mul] at this
  rcases hp.euclid h1 with e | e
  · exact Int.natAbs_dvd_natAbs.mp (by rw [Int.natAbs_natCast]; exact e)
  · exact absurd (Int.natAbs_dvd_natAbs.mp (by rw [Int.natAbs_natCast]; exact e)) hb
section
variable {p r : Nat} {E : Nat → Nat → Int} {col : Nat → Nat}
theorem rel_dvd (hp : Pr p) (h0 : ∀ i, i < r → ¬ (p : Int) ∣ E i (col i)) (h1 : ∀ i k, i < k → k < r → (p : Int) ∣ E k (col i)) {a : Nat → Int} (h : ∀ j, sI r (fun i => a i * E i j) = 0) : ∀ i, i < r → (p : Int) ∣ a i := by
  intro i
  induction i using Nat.strongRecOn with
  | _ i ih =>
    intro hi
    have h2 := sI_one (p := (p : Int)) (f := fun k => a k * E k (col i)) r hi fun k hk hne => by
      by_cases hlt : k < i
      · exact Int.dvd_trans (ih k hlt hk) (Int.dvd_mul_right ..)
      · exact Int.dvd_trans (h1 i k (by omega) hk) (Int.dvd_mul_left ..)
    rw [h (col i), Int.zero_sub] at h2
    exact euclidI hp (Int.dvd_neg.mp h2) (h0 i hi)
theorem rel_pow (hp : Pr p) (h0 : ∀ i, i < r → ¬ (p : Int) ∣ E i (col i)) (h1 : ∀ i k, i < k → k < r → (p : Int) ∣ E k (col i)) : ∀ (n : Nat) (a : Nat → Int), (∀ j, sI r (fun i => a i * E i j) = 0) → ∀ i, i < r → ((p : Int) ^ n) ∣ a i
  | 0, a, _, i, _ => by rw [Int.pow_zero]; exact Int.one_dvd _
  | n + 1, a, h, i, hi => by
    have hd := rel_dvd hp h0 h1 h
    have hpos : (p : Int) ≠ 0 := by have := hp.1; omega
    let b : Nat → Int := fun k => a k / (p : Int)
    have eb : ∀ k, k < r → a k = (p : Int) * b k := fun k hk => (Int.mul_ediv_cancel' (hd k hk)).symm
    have hb : ∀ j, sI r (fun k => b k * E k j) = 0 := fun j => by
      have e1 : sI r (fun k => (p : Int) * (b k * E k j)) = 0 := by
        rw [← h j]
        have go : ∀ m, m ≤ r → sI m (fun k => (p : Int) * (b k * E k j)) = sI m (fun k => a k * E k j) := by
          intro m
          induction m with
          | zero => intro _; rfl
          | succ m ih =>
            intro hm
            show _ + (p : Int) * (b m * E m j) = _ + a m * E m j
            rw [ih (by omega), eb m (by omega), Int.mul_assoc]
        exact go r (Nat.le_refl _)
      rw [sI_mul] at e1
      exact (Int.mul_eq_zero.mp e1).resolve_left hpos
    rw [eb i hi, Int.pow_succ, Int.mul_comm]
    exact Int.mul_dvd_mul_left _ (rel_pow hp h0 h1 n b hb i hi)
theorem rel_zero (hp : Pr p) (h0 : ∀ i, i < r → ¬ (p : Int) ∣ E i (col i)) (h1 : ∀ i k, i < k → k < r → (p : Int) ∣ E k (col i)) {a : Nat → Int} (h : ∀ j, sI r (fun i => a i * E i j) = 0) {i : Nat} (hi : i < r) : a i = 0 := by
  have hd := rel_pow hp h0 h1 (a i).natAbs a h i hi
  apply Classical.byContradiction
  intro hne
  have h2 := Nat.le_of_dvd (Int.natAbs_pos.mpr hne) (Int.natAbs_dvd_natAbs.mpr hd)
  rw [Int.natAbs_pow, Int.natAbs_natCast] at h2
  have h3 : (a i).natAbs < 2 ^ (a i).natAbs := Nat.lt_two_pow_self
  have h4 : 2 ^ (a i).natAbs ≤ p ^ (a i).natAbs := Nat.pow_le_pow_left hp.1 _
  omega
theorem clear_den (x : Nat → Rat) : ∀ r : Nat, ∃ (D : Int) (a : Nat → Int), D ≠ 0 ∧ ∀ i, i < r → (a i : Rat) = (D : Rat) * x i
  | 0 => ⟨1, fun _ => 0, by decide, fun i hi => absurd hi (Nat.not_lt_zero _)⟩
  | r + 1 => by
    obtain ⟨D, a, hD, ha⟩ := clear_den x r
    have hd : ((x r).den : Int) ≠ 0 := by have := (x r).den_nz; omega
    refine ⟨D * ((x r).den : Int), fun i => if i = r then D * (x r).num else a i * ((x r).den : Int), Int.mul_ne_zero hD hd, fun i hi => ?_⟩
    have en : ((x r).num : Rat) = x r * (((x r).den : Int) : Rat) := by
      have h := Rat.num_divInt_den (x r)
      rw [Rat.divInt_eq_div] at h
      have hz : (((x r).den : Int) : Rat) ≠ 0 := fun z => hd (Rat.intCast_eq_zero_iff.mp z)
      generalize (((x r).den : Int) : Rat) = d at *
      generalize ((x r).num : Rat) = n at *
      rw [← h]; grind
    by_cases e : i = r
    · subst e
      show (((if i = i then D * (x i).num else a i * ((x i).den : Int)) : Int) : Rat) = _
      rw [if_pos rfl, Rat.intCast_mul, Rat.intCast_mul, en]; grind
    · show (((if i = r then D * (x r).num else a i * ((x r).den : Int)) : Int) : Rat) = _
      rw [if_neg e, Rat.intCast_mul, Rat.intCast_mul, ha i (by omega)]; grind
theorem ind_mod (hp : Pr p) (h0 : ∀ i, i < r → ¬ (p : Int) ∣ E i (col i)) (h1 : ∀ i k, i < k → k < r → (p : Int) ∣ E k (col i)) : Ind r (fun i => castV (E i)) := by
  intro x hx i hi
  obtain ⟨D, a, hD, ha⟩ := clear_den x r
  have hDr : (D : Rat) ≠ 0 := fun z => hD (Rat.intCast_eq_zero_iff.mp z)
  have hz := rel_zero hp h0 h1 (a := a) (fun j => by
    apply Rat.intCast_eq_zero_iff.mp
    rw [sI_cast]
    have e : S r (fun i => ((a i * E i j : Int) : Rat)) = (D : Rat) * S r (fun i => x i * castV (E i) j) := by
      rw [← S_mul]
      exact S_congr fun k hk => by
        rw [Rat.intCast_mul, ha k hk]
        show _ = (D : Rat) * (x k * (E k j : Rat))
        grind
    rw [e, hx j, Rat.mul_zero]) hi
  have := ha i hi
  rw [hz] at this
  have h2 : (0 : Rat) = (D : Rat) * x i := this
  rcases Rat.mul_eq_zero.mp h2.symm with e | e
  · exact absurd e hDr
  · exact e
end
end Modp
namespace DX
open PySem L2
local macro_rules | `(tactic| walk_at "ev1") => `(tactic| with_reducible first
  | exact ed_int | exact ed_bl | exact ed_non | exact ed_str
  | refine' ed_var ?_
  | refine' ed_rI0 ?_ ?_ ?_
  | refine' ed_rI ?_ ?_ ?_ ?_
  | refine' ed_rU ?_ ?_
  | refine' ed_ix ?_ ?_ ?_
  | refine' ed_tup ?_ ?_
  | exact ea_nil | refine' ea_cons ?_ ?_
  | refine' ed_len ?_ ?_ | refine' ed_abs ?_ | refine' ed_max2 ?_ ?_ | refine' ed_min2 ?_ ?_ | refine' ed_int1 ?_ ?_
  | refine' ed_gcd ?_ ?_ | refine' ed_lcm ?_ ?_ ?_ ?_
  | refine' ed_call ?_ ?_
  | refine' ed_isi ?_ ?_
  | refine' ed_isB ?_ ?_ | refine' ed_notB ?_ ?_
  | refine' ed_eqD ?_ ?_ ?_ ?_ ?_ | refine' ed_neD ?_ ?_ ?_ ?_ ?_
  | refine' et_test ?_ | refine' et_B ?_
  | refine' et_and ?_ (fun _ => ?_) | refine' et_or ?_ (fun _ => ?_) | refine' et_not ?_
  | refine' ed_andV ?_ (fun _ => ?_) | refine' ed_orV ?_ (fun _ => ?_) | refine' ed_notV ?_
  | refine' EN.ed (en_lst ?_ ?_) | refine' EN.ed (en_rep ?_ ?_ ?_ ?_) | refine' EN.ed (en_cat ?_ ?_ ?_)
  | refine' en_lst ?_ ?_ | refine' en_rep ?_ ?_ ?_ ?_ | refine' en_cat ?_ ?_ ?_ | refine' en_list ?_ ?_ | refine' EN.ed (en_list ?_ ?_)
  | refine' ei_seq ?_ ?_ | refine' ei_rngN ?_ ?_ ?_ | refine' ei_zip ?_ ?_ | refine' ei_enum ?_
  | refine' ed_isN ?_ | refine' ed_notN ?_ | refine' et_truth ?_ ?_ | refine' ed_lenD ?_
  | exact Sc.int _ | exact Sc.bl _ | exact Shp.shaped shp_num | exact Shp.shaped (n := 0) shp_int | exact Shp.shaped (n := 1) shp_ints)
local macro_rules | `(tactic| walk_at "ev2") => `(tactic| first | walk_at "ev1" | rfl | exact Sc.int _ | exact Sc.bl _ | exact sz_small (by simp; done) | exact powX (by decide))
local macro_rules | `(tactic| walk_at "ev") => `(tactic| repeat' (walk_at "ev2"))
local macro_rules | `(tactic| walk_at "sh") => `(tactic| first | exact Shp.shaped (n := 0) shp_int | exact Shp.shaped (n := 1) shp_ints | exact Shp.shaped (n := 1) shp_num)

def topS (i : Nat) : Stmt := PySem.Challenge.pw_loadorloose_k02_ranks.main.body.getD i (.Pass ⟨0, 0, 0, 0⟩)
abbrev s_lowest : Stmt := topS 2
abbrev N_lowest : List Str := ["integers", "divisor", "n"]
theorem sc_lowest : FnScope N_lowest ["integers"] (defScope s_lowest) := ⟨rfl, rfl, rfl, by decide +kernel, rfl, by decide +kernel, by decide +kernel⟩
abbrev s_joined : Stmt := topS 4
abbrev N_joined : List Str := ["row", "factor", "leader", "pivot", "shared", "times_row", "times_leader", "cell", "lead"]
theorem sc_joined : FnScope N_joined ["row", "factor", "leader", "pivot"] (defScope s_joined) := ⟨rfl, rfl, rfl, by decide +kernel, rfl, by decide +kernel, by decide +kernel⟩
abbrev s_reduced : Stmt := topS 5
abbrev N_reduced : List Str := ["rows", "width", "cells", "spent", "bound", "loose", "column", "at", "row"]
theorem sc_reduced : FnScope N_reduced ["rows", "width"] (defScope s_reduced) := ⟨rfl, rfl, rfl, by decide +kernel, rfl, by decide +kernel, by decide +kernel⟩
abbrev s_smallest : Stmt := topS 6
abbrev N_smallest : List Str := ["cells", "spent", "column", "best", "k", "row"]
theorem sc_smallest : FnScope N_smallest ["cells", "spent", "column"] (defScope s_smallest) := ⟨rfl, rfl, rfl, by decide +kernel, rfl, by decide +kernel, by decide +kernel⟩
abbrev s_swept : Stmt := topS 7
abbrev N_swept : List Str := ["cells", "at", "column", "leader", "found", "k", "row"]
theorem sc_swept : FnScope N_swept ["cells", "at", "column"] (defScope s_swept) := ⟨rfl, rfl, rfl, by decide +kernel, rfl, by decide +kernel, by decide +kernel⟩
abbrev s_rank : Stmt := topS 10
abbrev N_rank : List Str := ["rows", "width", "least"]
theorem sc_rank : FnScope N_rank ["rows"] (defScope s_rank) := ⟨rfl, rfl, rfl, by decide +kernel, rfl, by decide +kernel, by decide +kernel⟩
abbrev s_rank_of_rests : Stmt := topS 11
abbrev N_rank_of_rests : List Str := ["rows", "cells", "found", "leader", "column", "row", "n"]
theorem sc_rank_of_rests : FnScope N_rank_of_rests ["rows"] (defScope s_rank_of_rests) := ⟨rfl, rfl, rfl, by decide +kernel, rfl, by decide +kernel, by decide +kernel⟩
abbrev s_first_place : Stmt := topS 12
abbrev N_first_place : List Str := ["row", "place", "n"]
theorem sc_first_place : FnScope N_first_place ["row"] (defScope s_first_place) := ⟨rfl, rfl, rfl, by decide +kernel, rfl, by decide +kernel, by decide +kernel⟩
abbrev s_rests_joined : Stmt := topS 13
abbrev N_rests_joined : List Str := ["row", "leader", "column", "factor", "pivot", "a", "b"]
theorem sc_rests_joined : FnScope N_rests_joined ["row", "leader", "column"] (defScope s_rests_joined) := ⟨rfl, rfl, rfl, by decide +kernel, rfl, by decide +kernel, by decide +kernel⟩
abbrev s_u_law_cell : Stmt := topS 15
abbrev N_u_law_cell : List Str := ["script", "k"]
theorem sc_u_law_cell : FnScope N_u_law_cell ["script", "k"] (defScope s_u_law_cell) := ⟨rfl, rfl, rfl, by decide +kernel, rfl, by decide +kernel, by decide +kernel⟩
abbrev s_u_law_parts : Stmt := topS 16
abbrev N_u_law_parts : List Str := ["cell", "sizes", "parts", "left", "k", "mixed"]
theorem sc_u_law_parts : FnScope N_u_law_parts ["cell", "sizes"] (defScope s_u_law_parts) := ⟨rfl, rfl, rfl, by decide +kernel, rfl, by decide +kernel, by decide +kernel⟩
abbrev s_u_law_is_integer : Stmt := topS 17
abbrev N_u_law_is_integer : List Str := ["actual"]
theorem sc_u_law_is_integer : FnScope N_u_law_is_integer ["actual"] (defScope s_u_law_is_integer) := ⟨rfl, rfl, rfl, by decide +kernel, rfl, by decide +kernel, by decide +kernel⟩
abbrev s_u_law_divisor : Stmt := topS 18
abbrev N_u_law_divisor : List Str := ["a", "b", "k"]
theorem sc_u_law_divisor : FnScope N_u_law_divisor ["a", "b"] (defScope s_u_law_divisor) := ⟨rfl, rfl, rfl, by decide +kernel, rfl, by decide +kernel, by decide +kernel⟩
abbrev s_u_law_number : Stmt := topS 19
abbrev N_u_law_number : List Str := ["n", "d", "divisor"]
theorem sc_u_law_number : FnScope N_u_law_number ["n", "d"] (defScope s_u_law_number) := ⟨rfl, rfl, rfl, by decide +kernel, rfl, by decide +kernel, by decide +kernel⟩
abbrev s_u_law_plus : Stmt := topS 20
abbrev N_u_law_plus : List Str := ["a", "b"]
theorem sc_u_law_plus : FnScope N_u_law_plus ["a", "b"] (defScope s_u_law_plus) := ⟨rfl, rfl, rfl, by decide +kernel, rfl, by decide +kernel, by decide +kernel⟩
abbrev s_u_law_times : Stmt := topS 21
abbrev N_u_law_times : List Str := ["a", "b"]
theorem sc_u_law_times : FnScope N_u_law_times ["a", "b"] (defScope s_u_law_times) := ⟨rfl, rfl, rfl, by decide +kernel, rfl, by decide +kernel, by decide +kernel⟩
abbrev s_u_law_rows : Stmt := topS 24
abbrev N_u_law_rows : List Str := ["script", "width", "rows", "parts", "k", "digits", "row", "one", "other", "j"]
theorem sc_u_law_rows : FnScope N_u_law_rows ["script", "width"] (defScope s_u_law_rows) := ⟨rfl, rfl, rfl, by decide +kernel, rfl, by decide +kernel, by decide +kernel⟩
abbrev s_u_law_rank : Stmt := topS 25
abbrev N_u_law_rank : List Str := ["rows", "width", "left", "count", "column", "found", "step", "others", "row", "share", "entry", "k", "j"]
theorem sc_u_law_rank : FnScope N_u_law_rank ["rows", "width"] (defScope s_u_law_rank) := ⟨rfl, rfl, rfl, by decide +kernel, rfl, by decide +kernel, by decide +kernel⟩
abbrev s_law : Stmt := topS 26
abbrev N_law : List Str := ["script", "width", "rows", "kept", "due"]
theorem sc_law : FnScope N_law ["script"] (defScope s_law) := ⟨rfl, rfl, rfl, by decide +kernel, rfl, by decide +kernel, by decide +kernel⟩
structure Txt (K : PySem.W.Frag) (mg : Str → Option Value) where
  f_lowest : Addr
  fd_lowest : FuncData
  F_lowest : Fun K "lowest" "lowest" s_lowest f_lowest fd_lowest
  g_lowest : mg "lowest" = some (.ref f_lowest)
  b_lowest : Binds K fd_lowest ["integers"] []
  f_joined : Addr
  fd_joined : FuncData
  F_joined : Fun K "joined" "joined" s_joined f_joined fd_joined
  g_joined : mg "joined" = some (.ref f_joined)
  b_joined : Binds K fd_joined ["row", "factor", "leader", "pivot"] []
  f_reduced : Addr
  fd_reduced : FuncData
  F_reduced : Fun K "reduced" "reduced" s_reduced f_reduced fd_reduced
  g_reduced : mg "reduced" = some (.ref f_reduced)
  b_reduced : Binds K fd_reduced ["rows", "width"] []
  f_smallest : Addr
  fd_smallest : FuncData
  F_smallest : Fun K "smallest" "smallest" s_smallest f_smallest fd_smallest
  g_smallest : mg "smallest" = some (.ref f_smallest)
  b_smallest : Binds K fd_smallest ["cells", "spent", "column"] []
  f_swept : Addr
  fd_swept : FuncData
  F_swept : Fun K "swept" "swept" s_swept f_swept fd_swept
  g_swept : mg "swept" = some (.ref f_swept)
  b_swept : Binds K fd_swept ["cells", "at", "column"] []
  f_rank : Addr
  fd_rank : FuncData
  F_rank : Fun K "rank" "rank" s_rank f_rank fd_rank
  g_rank : mg "rank" = some (.ref f_rank)
  b_rank : Binds K fd_rank ["rows"] []
  f_rank_of_rests : Addr
  fd_rank_of_rests : FuncData
  F_rank_of_rests : Fun K "rank_of_rests" "rank_of_rests" s_rank_of_rests f_rank_of_rests fd_rank_of_rests
  g_rank_of_rests : mg "rank_of_rests" = some (.ref f_rank_of_rests)
  b_rank_of_rests : Binds K fd_rank_of_rests ["rows"] []
  f_first_place : Addr
  fd_first_place : FuncData
  F_first_place : Fun K "first_place" "first_place" s_first_place f_first_place fd_first_place
  g_first_place : mg "first_place" = some (.ref f_first_place)
  b_first_place : Binds K fd_first_place ["row"] []
  f_rests_joined : Addr
  fd_rests_joined : FuncData
  F_rests_joined : Fun K "rests_joined" "rests_joined" s_rests_joined f_rests_joined fd_rests_joined
  g_rests_joined : mg "rests_joined" = some (.ref f_rests_joined)
  b_rests_joined : Binds K fd_rests_joined ["row", "leader", "column"] []
  f_u_law_cell : Addr
  fd_u_law_cell : FuncData
  F_u_law_cell : Fun K "_law_cell" "_law_cell" s_u_law_cell f_u_law_cell fd_u_law_cell
  g_u_law_cell : mg "_law_cell" = some (.ref f_u_law_cell)
  b_u_law_cell : Binds K fd_u_law_cell ["script", "k"] []
  f_u_law_parts : Addr
  fd_u_law_parts : FuncData
  F_u_law_parts : Fun K "_law_parts" "_law_parts" s_u_law_parts f_u_law_parts fd_u_law_parts
  g_u_law_parts : mg "_law_parts" = some (.ref f_u_law_parts)
  b_u_law_parts : Binds K fd_u_law_parts ["cell", "sizes"] []
  f_u_law_is_integer : Addr
  fd_u_law_is_integer : FuncData
  F_u_law_is_integer : Fun K "_law_is_integer" "_law_is_integer" s_u_law_is_integer f_u_law_is_integer fd_u_law_is_integer
  g_u_law_is_integer : mg "_law_is_integer" = some (.ref f_u_law_is_integer)
  b_u_law_is_integer : Binds K fd_u_law_is_integer ["actual"] []
  f_u_law_divisor : Addr
  fd_u_law_divisor : FuncData
  F_u_law_divisor : Fun K "_law_divisor" "_law_divisor" s_u_law_divisor f_u_law_divisor fd_u_law_divisor
  g_u_law_divisor : mg "_law_divisor" = some (.ref f_u_law_divisor)
  b_u_law_divisor : Binds K fd_u_law_divisor ["a", "b"] []
  f_u_law_number : Addr
  fd_u_law_number : FuncData
  F_u_law_number : Fun K "_law_number" "_law_number" s_u_law_number f_u_law_number fd_u_law_number
  g_u_law_number : mg "_law_number" = some (.ref f_u_law_number)
  b_u_law_number : Binds K fd_u_law_number ["n", "d"] []
  f_u_law_plus : Addr
  fd_u_law_plus : FuncData
  F_u_law_plus : Fun K "_law_plus" "_law_plus" s_u_law_plus f_u_law_plus fd_u_law_plus
  g_u_law_plus : mg "_law_plus" = some (.ref f_u_law_plus)
  b_u_law_plus : Binds K fd_u_law_plus ["a", "b"] []
  f_u_law_times : Addr
  fd_u_law_times : FuncData
  F_u_law_times : Fun K "_law_times" "_law_times" s_u_law_times f_u_law_times fd_u_law_times
  g_u_law_times : mg "_law_times" = some (.ref f_u_law_times)
  b_u_law_times : Binds K fd_u_law_times ["a", "b"] []
  f_u_law_rows : Addr
  fd_u_law_rows : FuncData
  F_u_law_rows : Fun K "_law_rows" "_law_rows" s_u_law_rows f_u_law_rows fd_u_law_rows
  g_u_law_rows : mg "_law_rows" = some (.ref f_u_law_rows)
  b_u_law_rows : Binds K fd_u_law_rows ["script", "width"] []
  f_u_law_rank : Addr
  fd_u_law_rank : FuncData
  F_u_law_rank : Fun K "_law_rank" "_law_rank" s_u_law_rank f_u_law_rank fd_u_law_rank
  g_u_law_rank : mg "_law_rank" = some (.ref f_u_law_rank)
  b_u_law_rank : Binds K fd_u_law_rank ["rows", "width"] []
  f_law : Addr
  fd_law : FuncData
  F_law : Fun K "law" "law" s_law f_law fd_law
  g_law : mg "law" = some (.ref f_law)
  z_abs : mg "abs" = none
  z_bool : mg "bool" = none
  z_enumerate : mg "enumerate" = none
  z_int : mg "int" = none
  z_isinstance : mg "isinstance" = none
  z_len : mg "len" = none
  z_list : mg "list" = none
  z_min : mg "min" = none
  z_range : mg "range" = none
  z_tuple : mg "tuple" = none
  z_zip : mg "zip" = none
  i_gcd : mg "gcd" = some (.builtin "math.gcd")
  t_PRIME : Tok
  c_PRIME : mg "PRIME" = some (.int 2305843009213693951 t_PRIME)
section
variable {P : Program} {w : World} {K : PySem.W.Frag} {mg : Str → Option Value} {base : Heap}
def R_number (ds : List D) (d : D) : Prop := ∃ n m : Int, ds = [.int n, .int m] ∧ m ≠ 0 ∧ Lt 8000 m ∧ d = numV (nrm n m)
theorem atI_map {α : Type} {xs : List α} {g : α → D} {k : Nat} {x : α} (h : xs[k]? = some x) : atI (xs.map g) (k : Int) = some (g x) := atI_nat (by rw [List.getElem?_map, h]; rfl)

/-! ### lists of integers in lowest terms -/
def gcdL (ns : List Int) : Nat := ns.foldl (fun g n => Nat.gcd g n.natAbs) 0
theorem gcdL_one : ∀ ns : List Int, ns.foldl (fun g n => Nat.gcd g n.natAbs) 1 = 1
  | [] => rfl
  | n :: ns => by
    rw [List.foldl_cons, Nat.gcd_one_left]
    exact gcdL_one ns
theorem gcdL_take {ns : List Int} {k : Nat} {x : Int} (h : ns[k]? = some x) : gcdL (ns.take (k + 1)) = Nat.gcd (gcdL (ns.take k)) x.natAbs := by
  unfold gcdL
  rw [List.take_add_one, h, List.foldl_append]
  rfl
theorem gcdL_pre {ns : List Int} {k : Nat} (h : gcdL (ns.take k) = 1) : gcdL ns = 1 := by
  have e : ns = ns.take k ++ ns.drop k := (List.take_append_drop k ns).symm
  rw [e]
  unfold gcdL at *
  rw [List.foldl_append, h]
  exact gcdL_one _
theorem foldl_gcd_le : ∀ (ns : List Int) (g : Nat) (B : Nat), g ≤ B → (∀ n ∈ ns, n.natAbs ≤ B) → ns.foldl (fun g n => Nat.gcd g n.natAbs) g ≤ B
  | [], g, B, h, _ => h
  | n :: ns, g, B, h, hn => by
    rw [List.foldl_cons]
    refine foldl_gcd_le ns _ B ?_ fun m hm => hn m (List.mem_cons_of_mem _ hm)
    by_cases hg : g = 0
    · subst hg
      rw [Nat.gcd_zero_left]
      exact hn n (List.mem_cons_self ..)
    · exact Nat.le_trans (Nat.gcd_le_left _ (Nat.pos_of_ne_zero hg)) h
theorem gcdL_lt {ns : List Int} {k : Nat} (h : ∀ n ∈ ns, Lt k n) : gcdL ns < 2 ^ k := by
  have : gcdL ns ≤ 2 ^ k - 1 := foldl_gcd_le ns 0 _ (Nat.zero_le _) fun n hn => by
    have := h n hn
    unfold Lt at this
    omega
  have := Nat.pow_pos (n := k) (show 0 < 2 by decide)
  omega
def lowM (ns : List Int) : List Int := if gcdL ns = 0 then ns else ns.map fun n => n.fdiv (gcdL ns : Nat)
def R_lowest (ds : List D) (d : D) : Prop := ∃ (x : D) (ns : List Int), ds = [x] ∧ itemsD x = some (ns.map PyData.int) ∧ (∀ n ∈ ns, Lt 8000 n) ∧ ns.length ≤ 100000 ∧ d = .list ((lowM ns).map PyData.int)
theorem ok_lowest (T : Txt K mg) : FnOk P w K mg base CX0 1 T.f_lowest T.fd_lowest ["integers"] (spD K R_lowest) := by
  refine ok_wp T.F_lowest sc_lowest ?_ (fun cdv A outer s H E hr => ⟨_, (pss_cons (ps_set (i := 1) sc_lowest.nd rfl (by first | exact Or.inl rfl | exact Or.inr rfl) pe_int)
      (pss_cons (ps_for PassesOwn.never rfl (kpi_seq (K := K) (pv 0)) (pg_name (i := 2) sc_lowest.nd rfl (by first | exact Or.inl rfl | exact Or.inr rfl))
      (pss_cons (ps_set (i := 1) sc_lowest.nd rfl (by first | exact Or.inl rfl | exact Or.inr rfl) (pe_callBfun cr_gcd (by rfl) T.i_gcd (pa_cons (pv 1) (pa_cons (pv 2) pa_nil))))
      (pss_one (ps_if (pt_cmpR (kx_eq (K := K) hr.units) (pv 1) pe_int (nomark _)) (pss_one ps_break) pss_nil))))
      (pss_cons (ps_if (pt_cmpR (kx_eq (K := K) hr.units) (pv 1) pe_int (nomark _)) (pss_one (ps_ret (pe_callTy (kx_list (K := K)) (by rfl) T.z_list (by decide +kernel) (pa_cons (pv 0) pa_nil)))) pss_nil)
      (pss_one (ps_ret (pe_lc (own := [("n", 2)]) (by rfl) sc_lowest.nd (kpi_seq (K := K) (pv 0)) (by refine blkOk_by ?_; rfl) (fun _ _ _ _ _ => pg_name (i := 2) sc_lowest.nd rfl (by first | exact Or.inl rfl | exact Or.inr rfl)) (fun _ _ _ _ _ => pts_nil) (fun _ _ _ _ _ => (pe_op op_fdivX (pv 2) (pv 1))))))))), ?_⟩)
  all_goals (try simp only [nox_K, blk_K, cx_K])
  · rintro ds d ⟨x, ns, rfl, _⟩; rfl
  · rintro ds d ⟨z, ns, rfl, hz, hn, hl, rfl⟩
    refine wp_seq (wp_asg (by walk_at "ev") ?_)
    refine wp_seq (wp_cut (fun δ => ∃ x, δ = [.val z, .val (.int (gcdL ns : Nat)), x])
      (wp_forG (xs := ns) (g := PyData.int) (fun k δ => ∃ x, δ = [.val z, .val (.int (gcdL (ns.take k) : Nat)), x]) (by repeat' first | walk_at "ev2" | exact hz | fail) ⟨_, rfl⟩ ?_ ?_) ?_)
    · rintro k x δ ex ⟨y, rfl⟩
      refine wp_seq (wp_asg (by walk_at "ev") ?_)
      refine wp_if (by walk_at "ev") (fun h => ?_) (fun h => ?_)
      · have h : ((Nat.gcd (gcdL (ns.take k)) x.natAbs : Nat) : Int) = 1 := eq_of_beq (a := ((Nat.gcd (gcdL (ns.take k)) x.natAbs : Nat) : Int)) h
        refine wp_break ⟨.val (.int x), ?_⟩
        have h1 : gcdL (ns.take (k + 1)) = 1 := by
          rw [gcdL_take ex]
          omega
        rw [gcdL_pre h1]
        show [_, SV.val (PyData.int ((Nat.gcd (gcdL (ns.take k)) x.natAbs : Nat) : Int)), _] = _
        rw [h]
        rfl
      · refine wp_next ⟨.val (.int x), ?_⟩
        rw [gcdL_take ex]
        rfl
    · rintro δ ⟨x, rfl⟩
      refine ⟨x, ?_⟩
      rw [List.take_length]
    · rintro δ ⟨x, rfl⟩
      refine wp_seq (wp_if (by walk_at "ev") (fun h => ?_) (fun h => ?_))
      · have h : ((gcdL ns : Nat) : Int) = 0 := eq_of_beq (a := ((gcdL ns : Nat) : Int)) h
        have h0 : gcdL ns = 0 := by omega
        refine wp_ret (by repeat' first | walk_at "ev2" | exact hz | fail) ?_
        show _ = _
        rw [lowM, if_pos h0]
      · have h : (((gcdL ns : Nat) : Int) == 0) = false := h
        have h0 : gcdL ns ≠ 0 := fun z => by
          rw [z] at h
          cases h
        refine wp_next (wp_ret (EN.ed (en_lc1 (xs := ns) (g := PyData.int) (f := fun n => PyData.int (n.fdiv (gcdL ns : Nat))) (by repeat' first | walk_at "ev2" | exact hz | fail) (sz_small hl) fun n hm => ?_)) ?_)
        · repeat' first | walk_at "ev2" | exact divX (k := 8000) (by omega) (gcdL_lt hn) | fail
        · show _ = _
          rw [lowM, if_neg h0, List.map_map]
          rfl
/-- lists of numbers over one denominator -/
def lcmL (as : List (Int × Int)) : Nat := as.foldl (fun s a => Nat.lcm s a.2.natAbs) 1
def prodL (as : List (Int × Int)) : Nat := as.foldl (fun s a => s * a.2.natAbs) 1
theorem lcmL_take {as : List (Int × Int)} {k : Nat} {x : Int × Int} (h : as[k]? = some x) : lcmL (as.take (k + 1)) = Nat.lcm (lcmL (as.take k)) x.2.natAbs := by
  unfold lcmL
  rw [List.take_add_one, h, List.foldl_append]
  rfl
theorem foldl_lcm_le : ∀ (as : List (Int × Int)) (s t : Nat), s ≤ t → as.foldl (fun s a => Nat.lcm s a.2.natAbs) s ≤ as.foldl (fun s a => s * a.2.natAbs) t
  | [], s, t, h => h
  | a :: as, s, t, h => by
    rw [List.foldl_cons, List.foldl_cons]
    exact foldl_lcm_le as _ _ (Nat.le_trans (lcm_le _ _) (Nat.mul_le_mul_right _ h))
theorem foldl_prod_mono : ∀ (as : List (Int × Int)) (s : Nat), (∀ a ∈ as, a.2 ≠ 0) → s ≤ as.foldl (fun s a => s * a.2.natAbs) s
  | [], s, _ => Nat.le_refl _
  | a :: as, s, h => by
    rw [List.foldl_cons]
    have h0 : 0 < a.2.natAbs := Int.natAbs_pos.mpr (h a (List.mem_cons_self ..))
    exact Nat.le_trans (Nat.le_mul_of_pos_right _ h0) (foldl_prod_mono as _ fun b hb => h b (List.mem_cons_of_mem _ hb))
theorem lcmL_lt {as : List (Int × Int)} {k n : Nat} (h0 : ∀ a ∈ as, a.2 ≠ 0) (h : prodL as < 2 ^ k) : lcmL (as.take n) < 2 ^ k := by
  refine Nat.lt_of_le_of_lt (foldl_lcm_le _ 1 1 (Nat.le_refl _)) (Nat.lt_of_le_of_lt ?_ h)
  have e : prodL as = (as.drop n).foldl (fun s a => s * a.2.natAbs) (prodL (as.take n)) := by
    unfold prodL
    rw [← List.foldl_append, List.take_append_drop]
  rw [e]
  exact foldl_prod_mono _ _ fun a ha => h0 a (List.mem_of_mem_drop ha)
theorem foldl_lcm_pos : ∀ (as : List (Int × Int)) (s : Nat), 0 < s → (∀ a ∈ as, a.2 ≠ 0) → 0 < as.foldl (fun s a => Nat.lcm s a.2.natAbs) s
  | [], s, h, _ => h
  | a :: as, s, h, h0 => by
    rw [List.foldl_cons]
    exact foldl_lcm_pos as _ (Nat.lcm_pos h (Int.natAbs_pos.mpr (h0 a (List.mem_cons_self ..)))) fun b hb => h0 b (List.mem_cons_of_mem _ hb)
def togM (as : List (Int × Int)) : List Int := as.map fun a => a.1 * (Int.fdiv (lcmL as : Nat) a.2)
def R_together (ds : List D) (d : D) : Prop := ∃ as : List (Int × Int), ds = [.list (as.map numV)] ∧ (∀ a ∈ as, a.2 ≠ 0 ∧ Lt 8000 a.1 ∧ Lt 8000 a.2) ∧ prodL as < 2 ^ 8000 ∧ as.length ≤ 100000 ∧ d = .tuple [.list ((togM as).map PyData.int), .int (lcmL as : Nat)]
theorem tog_lt {k : Nat} {as : List (Int × Int)} (h : ∀ a ∈ as, a.2 ≠ 0) (hp : prodL as < 2 ^ k) {a : Int × Int} (ha : a ∈ as) : Lt k (Int.fdiv (lcmL as : Nat) a.2) := by
  have e : lcmL as < 2 ^ k := by
    have := lcmL_lt (n := as.length) h hp
    rwa [List.take_length] at this
  have h2 : (a.2.natAbs : Nat) ∣ lcmL as := by
    unfold lcmL
    have go : ∀ (l : List (Int × Int)) (s : Nat), (a.2.natAbs ∣ s ∨ a ∈ l) → a.2.natAbs ∣ l.foldl (fun s a => Nat.lcm s a.2.natAbs) s := by
      intro l
      induction l with
      | nil => intro s hs; exact hs.elim id fun z => by cases z
      | cons b l ih =>
        intro s hs
        rw [List.foldl_cons]
        refine ih _ ?_
        rcases hs with hs | hs
        · exact .inl (Nat.dvd_trans hs (Nat.dvd_lcm_left _ _))
        · rcases List.mem_cons.mp hs with rfl | hs
          · exact .inl (Nat.dvd_lcm_right _ _)
          · exact .inr hs
    exact go as 1 (.inr ha)
  have h3 : a.2 ∣ ((lcmL as : Nat) : Int) := by
    rw [← Int.natAbs_dvd_natAbs]
    exact h2
  have e2 := fdiv_of_dvd h3
  have e3 : (Int.fdiv (lcmL as : Nat) a.2).natAbs * a.2.natAbs = lcmL as := by
    rw [← Int.natAbs_mul, e2]
    rfl
  unfold Lt
  refine Nat.lt_of_le_of_lt ?_ e
  have e4 := Nat.le_mul_of_pos_right (Int.fdiv (lcmL as : Nat) a.2).natAbs (Int.natAbs_pos.mpr (h a ha))
  rwa [e3] at e4
def R_brought (ds : List D) (d : D) : Prop := ∃ as : List (Int × Int), ds = [.list (as.map numV)] ∧ (∀ a ∈ as, a.2 ≠ 0 ∧ Lt 3900 a.1 ∧ Lt 3900 a.2) ∧ prodL as < 2 ^ 3900 ∧ as.length ≤ 100000 ∧ d = .list ((lowM (togM as)).map PyData.int)

/-! ### sweeping -/
def joinedM (row : List Int) (f : Int) (l : List Int) (p : Int) : List Int := (row.zip l).map fun x => (p.fdiv (Nat.gcd p.natAbs f.natAbs : Nat)) * x.1 - (f.fdiv (Nat.gcd p.natAbs f.natAbs : Nat)) * x.2
def R_joined (ds : List D) (d : D) : Prop := ∃ (row l : List Int) (f p : Int), ds = [listI row, .int f, listI l, .int p] ∧ p ≠ 0 ∧ Lt 3900 f ∧ Lt 3900 p ∧ (∀ n ∈ row, Lt 3900 n) ∧ (∀ n ∈ l, Lt 3900 n) ∧ row.length ≤ 100000 ∧ d = listI (joinedM row f l p)
theorem fdiv_le (a b : Int) (h : b ∣ a) : (a.fdiv b).natAbs ≤ a.natAbs := by
  by_cases hb : b = 0
  · subst hb
    rw [Int.fdiv_zero]; exact Nat.zero_le _
  · have e := congrArg Int.natAbs (fdiv_of_dvd h)
    rw [Int.natAbs_mul] at e
    have := Nat.le_mul_of_pos_right (a.fdiv b).natAbs (Int.natAbs_pos.mpr hb)
    omega
theorem gcd_dl (a b : Int) : ((Nat.gcd a.natAbs b.natAbs : Nat) : Int) ∣ a := by
  rw [← Int.natAbs_dvd_natAbs]; exact Nat.gcd_dvd_left _ _
theorem gcd_dr (a b : Int) : ((Nat.gcd a.natAbs b.natAbs : Nat) : Int) ∣ b := by
  rw [← Int.natAbs_dvd_natAbs]; exact Nat.gcd_dvd_right _ _
theorem ok_joined (T : Txt K mg) : FnOk P w K mg base CX0 1 T.f_joined T.fd_joined ["row", "factor", "leader", "pivot"] (spD K R_joined) := by
  refine ok_wp T.F_joined sc_joined ?_ (fun cdv A outer s H E hr => ⟨_, (pss_cons (ps_set (i := 4) sc_joined.nd rfl (by first | exact Or.inl rfl | exact Or.inr rfl) (pe_callBfun cr_gcd (by rfl) T.i_gcd (pa_cons (pv 3) (pa_cons (pv 1) pa_nil))))
      (pss_cons (ps_set (i := 5) sc_joined.nd rfl (by first | exact Or.inl rfl | exact Or.inr rfl) (pe_op op_fdivX (pv 3) (pv 4)))
      (pss_cons (ps_set (i := 6) sc_joined.nd rfl (by first | exact Or.inl rfl | exact Or.inr rfl) (pe_op op_fdivX (pv 1) (pv 4)))
      (pss_one (ps_ret (pe_lc (own := [("cell", 7), ("lead", 8)]) (by rfl) sc_joined.nd (kpi_zip (K := K) (by rfl) T.z_zip (pa_cons (pv 0) (pa_cons (pv 2) pa_nil))) (by refine blkOk_by ?_; rfl) (fun _ _ _ _ _ => kpg_tup (K := K) (n := 2) rfl (pgs_cons (pg_name (i := 7) sc_joined.nd rfl (by first | exact Or.inl rfl | exact Or.inr rfl)) (pgs_cons (pg_name (i := 8) sc_joined.nd rfl (by first | exact Or.inl rfl | exact Or.inr rfl)) pgs_nil))) (fun _ _ _ _ _ => pts_nil) (fun _ _ _ _ _ => (pe_op op_sub (pe_op op_mulX (pv 5) (pv 7)) (pe_op op_mulX (pv 6) (pv 8)))))))))), ?_⟩)
  all_goals (try simp only [nox_K, blk_K, cx_K])
  · rintro ds d ⟨row, l, f, p, rfl, _⟩; rfl
  · rintro ds d ⟨row, l, f, p, rfl, hp, hf, hpl, hr, hl, hn, rfl⟩
    have g0 : 0 < Nat.gcd p.natAbs f.natAbs := Nat.gcd_pos_of_pos_left _ (Int.natAbs_pos.mpr hp)
    have gl : Lt 3900 ((Nat.gcd p.natAbs f.natAbs : Nat) : Int) := Nat.lt_of_le_of_lt (Nat.gcd_le_left _ (Int.natAbs_pos.mpr hp)) hpl
    have cd : ∀ i, CDivX i ((Nat.gcd p.natAbs f.natAbs : Nat) : Int) := fun i => divX (k := 3900) (by omega) gl
    have t1 : Lt 3900 (p.fdiv (Nat.gcd p.natAbs f.natAbs : Nat)) := hpl.le (fdiv_le _ _ (gcd_dl _ _))
    have t2 : Lt 3900 (f.fdiv (Nat.gcd p.natAbs f.natAbs : Nat)) := hf.le (fdiv_le _ _ (gcd_dr _ _))
    refine wp_seq (wp_asg (by walk_at "ev") ?_)
    refine wp_seq (wp_asg (by repeat' first | walk_at "ev2" | exact cd _ | fail) ?_)
    refine wp_seq (wp_asg (by repeat' first | walk_at "ev2" | exact cd _ | fail) ?_)
    refine wp_ret (EN.ed (en_lc2 (xs := row.zip l) (g1 := fun x => PyData.int x.1) (g2 := fun x => PyData.int x.2) (f := fun x => PyData.int ((p.fdiv (Nat.gcd p.natAbs f.natAbs : Nat)) * x.1 - (f.fdiv (Nat.gcd p.natAbs f.natAbs : Nat)) * x.2)) (by decide) (EI.of (ei_zip (ds := row.map PyData.int) (es := l.map PyData.int) (ed_var rfl) (ed_var rfl)) (zipD_ints row l)) (sz_small (by rw [List.length_zip]; omega)) fun x hx => ?_)) ?_
    · have hx1 := hr _ (List.of_mem_zip hx).1
      have hx2 := hl _ (List.of_mem_zip hx).2
      repeat' first | walk_at "ev2" | exact mulX t1 hx1 | exact mulX t2 hx2 | fail
    · show _ = _
      rw [joinedM, listI, List.map_map]
      rfl
/-- the row for a column -/
def Pre_small (g : List (List Int) × List Bool × Nat) (ds : List D) : Prop := ds = [.list (g.1.map listI), .list (g.2.1.map PyData.bool), .int (g.2.2 : Nat)] ∧ (∀ x ∈ g.1, g.2.2 < x.length) ∧ g.2.1.length = g.1.length
def Post_small (g : List (List Int) × List Bool × Nat) (d : D) : Prop := (d = .none ∧ ∀ k, k < g.1.length → g.2.1.getD k true = false → (g.1.getD k []).getD g.2.2 0 = 0) ∨ ∃ k : Nat, k < g.1.length ∧ d = .int k ∧ g.2.1.getD k true = false ∧ (g.1.getD k []).getD g.2.2 0 ≠ 0
theorem getD_of {α : Type} {xs : List α} {k : Nat} {x d : α} (h : xs[k]? = some x) : xs.getD k d = x := by
  rw [List.getD_eq_getElem?_getD, h]; rfl
theorem atI_int {x : List Int} {c : Nat} (h : c < x.length) : itemD (listI x) (c : Int) = some (.int (x.getD c 0)) := by
  show atI (x.map PyData.int) (c : Int) = _
  rw [getD_of (List.getElem?_eq_getElem h)]
  exact atI_map (List.getElem?_eq_getElem h)
theorem ok_small (T : Txt K mg) : FnOk P w K mg base CX0 1 T.f_smallest T.fd_smallest ["cells", "spent", "column"] (spG K Pre_small Post_small) := by
  refine ok_wpG T.F_smallest sc_smallest ?_ (fun cdv A outer s H E hr => ⟨_, (pss_cons (ps_set (i := 3) sc_smallest.nd rfl (by first | exact Or.inl rfl | exact Or.inr rfl) pe_non)
      (pss_cons (ps_for PassesOwn.never rfl (kpi_enum (K := K) (by rfl) T.z_enumerate (pa_cons (pv 0) pa_nil)) (kpg_tup (K := K) (n := 2) rfl (pgs_cons (pg_name (i := 4) sc_smallest.nd rfl (by first | exact Or.inl rfl | exact Or.inr rfl)) (pgs_cons (pg_name (i := 5) sc_smallest.nd rfl (by first | exact Or.inl rfl | exact Or.inr rfl)) pgs_nil)))
      (pss_one (ps_if (PW.pt (pw_and (pt_cmpR (kx_ne (K := K) hr.units) (pe_ix (kx_ix (K := K)) (pv 5) (pv 2) (fun _ _ => rfl)) pe_int (nomark _)) (pw_and1 (pt_not (pt_val (pe_ix (kx_ix (K := K)) (pv 1) (pv 4) (fun _ _ => rfl))))))) (pss_one (ps_if (PW.pt (pw_or (pt_cmpR op_isNQ (pv 3) pe_non (nomark _)) (pw_or1 (pt_cmpR op_lt (pe_callB cr_absQ (by rfl) T.z_abs (by decide +kernel) (pa_cons (pe_ix (kx_ix (K := K)) (pv 5) (pv 2) (fun _ _ => rfl)) pa_nil)) (pe_callB cr_absQ (by rfl) T.z_abs (by decide +kernel) (pa_cons (pe_ix (kx_ix (K := K)) (pe_ix (kx_ix (K := K)) (pv 0) (pv 3) (fun _ _ => rfl)) (pv 2) (fun _ _ => rfl)) pa_nil)) (nomark _))))) (pss_one (ps_set (i := 3) sc_smallest.nd rfl (by first | exact Or.inl rfl | exact Or.inr rfl) (pv 4))) pss_nil)) pss_nil)))
      (pss_one (ps_ret (pv 3))))), ?_⟩)
  all_goals (try simp only [nox_K, blk_K, cx_K])
  · rintro g ds ⟨rfl, _⟩; rfl
  · rintro ⟨cells, spent, c⟩ ds ⟨rfl, hw, hl⟩
    simp only at hw hl
    refine wp_seq (wp_asg (by walk_at "ev") ?_)
    refine wp_seq (wp_forE (xs := cells) (g := listI) (fun k δ => ∃ b x y, δ = [.val (.list (cells.map listI)), .val (.list (spent.map PyData.bool)), .val (.int (c : Nat)), .val b, x, y] ∧ ((b = .none ∧ ∀ i, i < k → spent.getD i true = false → (cells.getD i []).getD c 0 = 0) ∨ ∃ i : Nat, i < cells.length ∧ b = .int i ∧ spent.getD i true = false ∧ (cells.getD i []).getD c 0 ≠ 0))
      (ei_enum (ds := cells.map listI) (ed_var rfl)) ⟨_, _, _, rfl, .inl ⟨rfl, fun i hi => absurd hi (Nat.not_lt_zero i)⟩⟩ ?_ ?_)
    · rintro k x δ ex ⟨b, y, z, rfl, hb⟩
      have hk : k < cells.length := (List.getElem?_eq_some_iff.mp ex).1
      have ec : cells.getD k [] = x := getD_of ex
      have hx := hw x (List.mem_of_getElem? ex)
      have i1 := atI_int hx
      have hks : k < spent.length := by omega
      have i2 : itemD (.list (spent.map PyData.bool)) (k : Int) = some (.bool (spent.getD k true)) := by
        rw [getD_of (List.getElem?_eq_getElem hks)]
        exact atI_map (List.getElem?_eq_getElem hks)
      refine wp_if (b := (!(x.getD c 0 == 0)) && (!spent.getD k true)) (ET.of (by repeat' first | walk_at "ev2" | exact i1 | exact i2 | walk_at "sh" | fail) (by rfl)) (fun h => ?_) (fun h => ?_)
      · rw [Bool.and_eq_true] at h
        have h1 : x.getD c 0 ≠ 0 := by
          have := h.1
          intro z
          rw [z] at this
          cases this
        have h2 : spent.getD k true = false := by
          have := h.2
          revert this
          cases spent.getD k true <;> simp
        have good : ∃ i : Nat, i < cells.length ∧ PyData.int (k : Nat) = .int i ∧ spent.getD i true = false ∧ (cells.getD i []).getD c 0 ≠ 0 := ⟨k, hk, rfl, h2, by rw [ec]; exact h1⟩
        rcases hb with ⟨rfl, hb⟩ | ⟨i, hi, rfl, hb1, hb2⟩
        · refine wp_if (b := true) (ET.of (et_or (a := true) (b := false) (et_test (ED.of (ed_isN (d := .none) (ed_var rfl)) rfl)) (fun h => nomatch h)) rfl) (fun _ => wp_asg (by walk_at "ev") ⟨.int (k : Nat), .val (.int (k : Nat)), .val (listI x), rfl, .inr good⟩) (fun h => nomatch h)
        · have i3 : itemD (.list (cells.map listI)) (i : Int) = some (listI (cells.getD i [])) := by
            rw [getD_of (List.getElem?_eq_getElem hi)]
            exact atI_map (List.getElem?_eq_getElem hi)
          have i4 := atI_int (hw (cells.getD i []) (by rw [getD_of (List.getElem?_eq_getElem hi)]; exact List.getElem_mem hi))
          refine wp_if (by repeat' first | walk_at "ev2" | exact i1 | exact i3 | exact i4 | fail) (fun _ => wp_asg (by walk_at "ev") ⟨.int (k : Nat), .val (.int (k : Nat)), .val (listI x), rfl, .inr good⟩) (fun _ => wp_next ⟨.int (i : Nat), .val (.int (k : Nat)), .val (listI x), rfl, .inr ⟨i, hi, rfl, hb1, hb2⟩⟩)
      · refine wp_next ⟨b, .val (.int (k : Nat)), .val (listI x), rfl, ?_⟩
        rcases hb with ⟨rfl, hb⟩ | hb
        · refine .inl ⟨rfl, fun i hi hs => ?_⟩
          by_cases hik : i < k
          · exact hb i hik hs
          · have : i = k := by omega
            subst this
            rw [ec]
            rw [hs] at h
            by_cases z : x.getD c 0 = 0
            · exact z
            · have : (x.getD c 0 == 0) = false := beq_eq_false_iff_ne.mpr z
              rw [this] at h
              cases h
        · exact .inr hb
    · rintro δ ⟨b, x, y, rfl, hb⟩
      exact wp_ret (by walk_at "ev") hb
theorem lt_getD {x : List Int} {k : Nat} (h : ∀ n ∈ x, Lt k n) (c : Nat) (h0 : 0 < k := by decide) : Lt k (x.getD c 0) := by
  by_cases hc : c < x.length
  · rw [getD_of (List.getElem?_eq_getElem hc)]
    exact h _ (List.getElem_mem hc)
  · rw [List.getD_eq_getElem?_getD, List.getElem?_eq_none (by omega)]
    show (0 : Int).natAbs < 2 ^ k
    exact Nat.pow_pos (by decide)
def sweptM (cells : List (List Int)) (at_ c : Nat) : List (List Int) :=
  (List.range cells.length).map fun k => if k = at_ ∨ (cells.getD k []).getD c 0 = 0 then cells.getD k [] else lowM (joinedM (cells.getD k []) ((cells.getD k []).getD c 0) (cells.getD at_ []) ((cells.getD at_ []).getD c 0))
def R_swept (ds : List D) (d : D) : Prop := ∃ (cells : List (List Int)) (at_ c : Nat), ds = [.list (cells.map listI), .int (at_ : Nat), .int (c : Nat)] ∧ at_ < cells.length ∧ (cells.getD at_ []).getD c 0 ≠ 0 ∧ (∀ x ∈ cells, c < x.length ∧ x.length ≤ 100000 ∧ ∀ n ∈ x, Lt 3900 n) ∧ cells.length ≤ 1000 ∧ d = .list ((sweptM cells at_ c).map listI)
theorem joined_lt {row l : List Int} {f p : Int} (hf : Lt 3900 f) (hpl : Lt 3900 p) (hr : ∀ n ∈ row, Lt 3900 n) (hl : ∀ n ∈ l, Lt 3900 n) : ∀ n ∈ joinedM row f l p, Lt 8000 n := fun n hn => by
  obtain ⟨x, hx, rfl⟩ := List.mem_map.mp hn
  have hx1 := hr _ (List.of_mem_zip hx).1
  have hx2 := hl _ (List.of_mem_zip hx).2
  have t1 : Lt 3900 (p.fdiv (Nat.gcd p.natAbs f.natAbs : Nat)) := hpl.le (fdiv_le _ _ (gcd_dl _ _))
  have t2 : Lt 3900 (f.fdiv (Nat.gcd p.natAbs f.natAbs : Nat)) := hf.le (fdiv_le _ _ (gcd_dr _ _))
  exact ((t1.mul hx1).sub (t2.mul hx2)).mono
theorem ok_swept (T : Txt K mg) : FnOk P w K mg base CX0 2 T.f_swept T.fd_swept ["cells", "at", "column"] (spD K R_swept) := by
  refine ok_wp T.F_swept sc_swept ?_ (fun cdv A outer s H E hr => ⟨_, (pss_cons (ps_set (i := 3) sc_swept.nd rfl (by first | exact Or.inl rfl | exact Or.inr rfl) (pe_ix (kx_ix (K := K)) (pv 0) (pv 1) (fun _ _ => rfl)))
      (pss_cons (ps_set (i := 4) sc_swept.nd rfl (by first | exact Or.inl rfl | exact Or.inr rfl) (pe_lst pa_nil))
      (pss_cons (ps_for PassesOwn.never rfl (kpi_enum (K := K) (by rfl) T.z_enumerate (pa_cons (pv 0) pa_nil)) (kpg_tup (K := K) (n := 2) rfl (pgs_cons (pg_name (i := 5) sc_swept.nd rfl (by first | exact Or.inl rfl | exact Or.inr rfl)) (pgs_cons (pg_name (i := 6) sc_swept.nd rfl (by first | exact Or.inl rfl | exact Or.inr rfl)) pgs_nil)))
      (pss_one (ps_if (PW.pt (pw_or (pt_cmpR (kx_eq (K := K) hr.units) (pv 5) (pv 1) (nomark _)) (pw_or1 (pt_cmpR (kx_eq (K := K) hr.units) (pe_ix (kx_ix (K := K)) (pv 6) (pv 2) (fun _ _ => rfl)) pe_int (nomark _))))) (pss_one (ps_expr (pe_bm PySem.F.plainAttrs_list PySem.F.slot_list_append PySem.F.type_list_append mt_append (pv 4) (pa_cons (pv 6) pa_nil)))) (pss_one (ps_expr (pe_bm PySem.F.plainAttrs_list PySem.F.slot_list_append PySem.F.type_list_append mt_append (pv 4) (pa_cons (pe_call (ok_lowest T) (hr.mono (by decide)) (by rfl) T.g_lowest T.F_lowest.kp T.b_lowest .nil pass0 (pa_cons (pe_call (ok_joined T) (hr.mono (by decide)) (by rfl) T.g_joined T.F_joined.kp T.b_joined .nil pass0 (pa_cons (pv 6) (pa_cons (pe_ix (kx_ix (K := K)) (pv 6) (pv 2) (fun _ _ => rfl)) (pa_cons (pv 3) (pa_cons (pe_ix (kx_ix (K := K)) (pv 3) (pv 2) (fun _ _ => rfl)) pa_nil))))) pa_nil)) pa_nil)))))))
      (pss_one (ps_ret (pv 4)))))), ?_⟩)
  all_goals (try simp only [nox_K, blk_K, cx_K])
  · rintro ds d ⟨cells, at_, c, rfl, _⟩; rfl
  · rintro ds d ⟨cells, at_, c, rfl, hat, hp, hw, hn, rfl⟩
    have el : cells.getD at_ [] = cells[at_] := getD_of (List.getElem?_eq_getElem hat)
    obtain ⟨lw, ll, lb⟩ := hw _ (List.getElem_mem hat)
    rw [← el] at lw ll lb
    have i0 : itemD (.list (cells.map listI)) (at_ : Int) = some (listI (cells.getD at_ [])) := by
      rw [el]; exact atI_map (List.getElem?_eq_getElem hat)
    have i1 := atI_int lw
    refine wp_seq (wp_asg (by repeat' first | walk_at "ev2" | exact i0 | fail) ?_)
    refine wp_seq (wp_asgN (by walk_at "ev") ?_)
    refine wp_seq (wp_forE (xs := cells) (g := listI) (fun k δ => ∃ x y, δ = [.val (.list (cells.map listI)), .val (.int (at_ : Nat)), .val (.int (c : Nat)), .val (listI (cells.getD at_ [])), .own (.l (((sweptM cells at_ c).take k).map listI)), x, y]) (ei_enum (ds := cells.map listI) (ed_var rfl)) ⟨_, _, rfl⟩ ?_ ?_)
    · rintro k x δ ex ⟨y, z, rfl⟩
      have hk : k < cells.length := (List.getElem?_eq_some_iff.mp ex).1
      have ec : cells.getD k [] = x := getD_of ex
      obtain ⟨xw, xl, xb⟩ := hw x (List.mem_of_getElem? ex)
      have i2 := atI_int xw
      have es : (sweptM cells at_ c)[k]? = some (if k = at_ ∨ x.getD c 0 = 0 then x else lowM (joinedM x (x.getD c 0) (cells.getD at_ []) ((cells.getD at_ []).getD c 0))) := by
        unfold sweptM
        rw [List.getElem?_map, List.getElem?_range hk]
        dsimp only [Option.map_some]
        rw [ec]
      have et : ((sweptM cells at_ c).take (k + 1)).map listI = ((sweptM cells at_ c).take k).map listI ++ [listI (if k = at_ ∨ x.getD c 0 = 0 then x else lowM (joinedM x (x.getD c 0) (cells.getD at_ []) ((cells.getD at_ []).getD c 0)))] := by
        rw [List.take_add_one, es, List.map_append]; rfl
      have hlen : (((sweptM cells at_ c).take k).map listI).length < sizeLine := by
        rw [List.length_map, List.length_take]
        exact small1000 (by unfold sweptM; rw [List.length_map, List.length_range]; omega)
      refine wp_if (b := ((k : Int) == (at_ : Int)) || (x.getD c 0 == 0)) (ET.of (by repeat' first | walk_at "ev2" | exact i2 | walk_at "sh" | fail) (by rfl)) (fun h => ?_) (fun h => ?_)
      · have hc : k = at_ ∨ x.getD c 0 = 0 := by
          rw [Bool.or_eq_true] at h
          rcases h with h | h
          · left
            have := eq_of_beq h
            omega
          · exact .inr (eq_of_beq h)
        refine wp_app (d := listI x) rfl (by walk_at "ev") hlen ⟨.val (.int (k : Nat)), .val (listI x), ?_⟩
        rw [et, if_pos hc]
        rfl
      · have hc : ¬ (k = at_ ∨ x.getD c 0 = 0) := by
          rw [Bool.or_eq_false_iff] at h
          rintro (z | z)
          · have := beq_eq_false_iff_ne.mp h.1
            omega
          · exact beq_eq_false_iff_ne.mp h.2 z
        have f1 : Lt 3900 (x.getD c 0) := lt_getD xb c
        have f2 : Lt 3900 ((cells.getD at_ []).getD c 0) := lt_getD lb c
        have cj : R_joined [listI x, .int (x.getD c 0), listI (cells.getD at_ []), .int ((cells.getD at_ []).getD c 0)] _ := ⟨x, _, _, _, rfl, hp, f1, f2, xb, lb, xl, rfl⟩
        have clo : R_lowest [listI (joinedM x (x.getD c 0) (cells.getD at_ []) ((cells.getD at_ []).getD c 0))] _ := ⟨_, _, rfl, rfl, joined_lt f1 f2 xb lb, by unfold joinedM; rw [List.length_map, List.length_zip]; omega, rfl⟩
        refine wp_app (d := listI (lowM (joinedM x (x.getD c 0) (cells.getD at_ []) ((cells.getD at_ []).getD c 0)))) rfl (by repeat' first | walk_at "ev2" | exact cj | exact clo | exact i1 | exact i2 | fail) hlen ⟨.val (.int (k : Nat)), .val (listI x), ?_⟩
        rw [et, if_neg hc]
        rfl
    · rintro δ ⟨x, y, rfl⟩
      refine wp_retOwn rfl ?_
      show _ = _
      rw [List.take_of_length_le (by unfold sweptM; rw [List.length_map, List.length_range]; exact Nat.le_refl _)]

/-! ### reduced -/
theorem gcdL_dvd : ∀ (ns : List Int) (g : Nat), ns.foldl (fun g n => Nat.gcd g n.natAbs) g ∣ g ∧ ∀ n ∈ ns, ns.foldl (fun g n => Nat.gcd g n.natAbs) g ∣ n.natAbs
  | [], g => ⟨Nat.dvd_refl _, fun n hn => by cases hn⟩
  | m :: ns, g => by
    rw [List.foldl_cons]
    obtain ⟨a, b⟩ := gcdL_dvd ns (Nat.gcd g m.natAbs)
    refine ⟨Nat.dvd_trans a (Nat.gcd_dvd_left _ _), fun n hn => ?_⟩
    rcases List.mem_cons.mp hn with rfl | hn
    · exact Nat.dvd_trans a (Nat.gcd_dvd_right _ _)
    · exact b n hn
theorem dvd_gcdL {k : Nat} : ∀ (ns : List Int) (g : Nat), k ∣ g → (∀ n ∈ ns, k ∣ n.natAbs) → k ∣ ns.foldl (fun g n => Nat.gcd g n.natAbs) g
  | [], g, h, _ => h
  | m :: ns, g, h, hn => by
    rw [List.foldl_cons]
    exact dvd_gcdL ns _ (Nat.dvd_gcd h (hn m (List.mem_cons_self ..))) fun n hm => hn n (List.mem_cons_of_mem _ hm)
theorem getD_mem_or {x : List Int} (j : Nat) : x.getD j 0 ∈ x ∨ x.getD j 0 = 0 := by
  by_cases hj : j < x.length
  · rw [getD_of (List.getElem?_eq_getElem hj)]
    exact .inl (List.getElem_mem hj)
  · rw [List.getD_eq_getElem?_getD, List.getElem?_eq_none (by omega)]
    exact .inr rfl
theorem lowM_len (ns : List Int) : (lowM ns).length = ns.length := by
  unfold lowM
  split
  · rfl
  · rw [List.length_map]
theorem lowM_scale (ns : List Int) : ∃ g : Int, g ≠ 0 ∧ ∀ j, g * (lowM ns).getD j 0 = ns.getD j 0 := by
  by_cases h : gcdL ns = 0
  · refine ⟨1, by decide, fun j => ?_⟩
    rw [lowM, if_pos h, Int.one_mul]
  · refine ⟨(gcdL ns : Nat), by omega, fun j => ?_⟩
    rw [lowM, if_neg h]
    by_cases hj : j < ns.length
    · have e : (ns.map fun n => n.fdiv (gcdL ns : Nat)).getD j 0 = (ns[j]).fdiv (gcdL ns : Nat) := getD_of (by rw [List.getElem?_map, List.getElem?_eq_getElem hj]; rfl)
      rw [e, getD_of (List.getElem?_eq_getElem hj), Int.mul_comm]
      exact fdiv_of_dvd (Int.ofNat_dvd_left.mpr ((gcdL_dvd ns 0).2 _ (List.getElem_mem hj)))
    · have e1 : (ns.map fun n => n.fdiv (gcdL ns : Nat)).getD j 0 = 0 := by rw [List.getD_eq_getElem?_getD, List.getElem?_eq_none (by rw [List.length_map]; omega)]; rfl
      have e2 : ns.getD j 0 = 0 := by rw [List.getD_eq_getElem?_getD, List.getElem?_eq_none (by omega)]; rfl
      rw [e1, e2, Int.mul_zero]
theorem lowM_prim (ns : List Int) : Prim (lowM ns) ∨ ∀ j, (lowM ns).getD j 0 = 0 := by
  by_cases h : gcdL ns = 0
  · right
    intro j
    rw [lowM, if_pos h]
    rcases getD_mem_or (x := ns) j with m | z
    · have := (gcdL_dvd ns 0).2 _ m
      have e : ns.foldl (fun g n => Nat.gcd g n.natAbs) 0 = 0 := h
      rw [e] at this
      have := Nat.eq_zero_of_zero_dvd this
      omega
    · exact z
  · left
    intro k hk
    have h0 : 0 < gcdL ns := Nat.pos_of_ne_zero h
    have hd : k * gcdL ns ∣ gcdL ns := dvd_gcdL ns 0 (Nat.dvd_zero _) fun n hn => by
      obtain ⟨j, hj, rfl⟩ := List.mem_iff_getElem.mp hn
      have a := hk j
      have e : (lowM ns).getD j 0 = (ns[j]).fdiv (gcdL ns : Nat) := by
        rw [lowM, if_neg h]
        exact getD_of (by rw [List.getElem?_map, List.getElem?_eq_getElem hj]; rfl)
      rw [e] at a
      have b := fdiv_of_dvd (Int.ofNat_dvd_left.mpr ((gcdL_dvd ns 0).2 _ (List.getElem_mem hj)) : ((gcdL ns : Nat) : Int) ∣ ns[j])
      obtain ⟨t, et⟩ := a
      refine ⟨t.natAbs, ?_⟩
      rw [← b, et, Int.natAbs_mul, Int.natAbs_mul]
      show k * t.natAbs * gcdL ns = k * gcdL ns * t.natAbs
      rw [Nat.mul_right_comm]
    have := Nat.le_of_dvd h0 hd
    have h1 : k ≤ 1 := by
      apply Classical.byContradiction
      intro z
      have : 2 * gcdL ns ≤ k * gcdL ns := Nat.mul_le_mul_right _ (by omega)
      omega
    rcases Nat.eq_zero_or_pos k with z | z
    · subst z
      rw [Nat.zero_mul] at hd
      have := Nat.eq_zero_of_zero_dvd hd
      omega
    · omega
theorem joinedM_at {row l : List Int} {f p : Int} (h : row.length = l.length) (j : Nat) : (joinedM row f l p).getD j 0 = (p.fdiv (Nat.gcd p.natAbs f.natAbs : Nat)) * row.getD j 0 - (f.fdiv (Nat.gcd p.natAbs f.natAbs : Nat)) * l.getD j 0 := by
  unfold joinedM
  by_cases hj : j < row.length
  · have h2 : j < l.length := by omega
    have e : (row.zip l)[j]? = some (row[j], l[j]) := by
      rw [List.getElem?_zip_eq_some]
      exact ⟨List.getElem?_eq_getElem hj, List.getElem?_eq_getElem h2⟩
    rw [getD_of (List.getElem?_eq_getElem hj), getD_of (List.getElem?_eq_getElem h2)]
    exact getD_of (by rw [List.getElem?_map, e]; rfl)
  · have z : ∀ x : List Int, x.length = row.length → x.getD j 0 = 0 := fun x hx => by rw [List.getD_eq_getElem?_getD, List.getElem?_eq_none (by omega)]; rfl
    rw [z row rfl, z l h.symm, z _ (by rw [List.length_map, List.length_zip]; omega), Int.mul_zero, Int.mul_zero]; rfl
theorem swept_len (cells : List (List Int)) (at_ c : Nat) : (sweptM cells at_ c).length = cells.length := by
  unfold sweptM
  rw [List.length_map, List.length_range]
theorem swept_at {cells : List (List Int)} {at_ c k : Nat} (hk : k < cells.length) : (sweptM cells at_ c).getD k [] = if k = at_ ∨ (cells.getD k []).getD c 0 = 0 then cells.getD k [] else lowM (joinedM (cells.getD k []) ((cells.getD k []).getD c 0) (cells.getD at_ []) ((cells.getD at_ []).getD c 0)) :=
  getD_of (by unfold sweptM; rw [List.getElem?_map, List.getElem?_range hk]; rfl)
theorem swept_swp {cells : List (List Int)} {at_ c k w : Nat} (hk : k < cells.length) (hka : k ≠ at_) (hat : at_ < cells.length) (hw : ∀ x ∈ cells, x.length = w) (hp : (cells.getD at_ []).getD c 0 ≠ 0) : Swp (cells.getD k []) (cells.getD at_ []) ((sweptM cells at_ c).getD k []) c := by
  rw [swept_at hk]
  by_cases hz : (cells.getD k []).getD c 0 = 0
  · rw [if_pos (.inr hz)]
    exact .self hz
  · rw [if_neg (fun z => z.elim hka hz)]
    have hl : (cells.getD k []).length = (cells.getD at_ []).length := by
      rw [getD_of (List.getElem?_eq_getElem hk), getD_of (List.getElem?_eq_getElem hat), hw _ (List.getElem_mem hk), hw _ (List.getElem_mem hat)]
    generalize cells.getD k [] = x at *
    generalize cells.getD at_ [] = y at *
    generalize hf : x.getD c 0 = f at *
    generalize hpp : y.getD c 0 = p at *
    obtain ⟨g, g0, ge⟩ := lowM_scale (joinedM x f y p)
    have d1 := fdiv_of_dvd (gcd_dl p f)
    have d2 := fdiv_of_dvd (gcd_dr p f)
    refine ⟨⟨g, p.fdiv (Nat.gcd p.natAbs f.natAbs : Nat), f.fdiv (Nat.gcd p.natAbs f.natAbs : Nat), g0, fun z => ?_, fun j => ?_⟩, ?_⟩
    · rw [z, Int.zero_mul] at d1
      exact hp d1.symm
    · rw [ge, joinedM_at hl]
    · have e := ge c
      rw [joinedM_at hl, hf, hpp] at e
      have : (p.fdiv (Nat.gcd p.natAbs f.natAbs : Nat)) * f = (f.fdiv (Nat.gcd p.natAbs f.natAbs : Nat)) * p := by
        generalize p.fdiv (Nat.gcd p.natAbs f.natAbs : Nat) = a at *
        generalize f.fdiv (Nat.gcd p.natAbs f.natAbs : Nat) = b at *
        generalize ((Nat.gcd p.natAbs f.natAbs : Nat) : Int) = s at *
        rw [← d1, ← d2, ← Int.mul_assoc, ← Int.mul_assoc, Int.mul_comm a b]
      rcases Int.mul_eq_zero.mp (show g * _ = 0 by rw [e]; omega) with z | z
      · exact absurd z g0
      · exact z
theorem GJ.start {rows : List (List Int)} {w : Nat} (hw : ∀ r ∈ rows, r.length = w) : GJ rows w 0 (rows.map lowM) [] where
  el := Elim.El.nil
  pc := fun a ha => by cases ha
  nd := List.nodup_nil
  ndc := List.nodup_nil
  len := List.length_map ..
  wid := fun x hx => by
    obtain ⟨r, hr, rfl⟩ := List.mem_map.mp hx
    rw [lowM_len, hw r hr]
  low := fun x hx => by
    obtain ⟨r, hr, rfl⟩ := List.mem_map.mp hx
    exact lowM_prim r
  loose := fun k hk _ => by
    have e : (rows.map lowM).getD k [] = lowM (rows.getD k []) := by
      rw [getD_of (List.getElem?_eq_getElem hk)]
      exact getD_of (by rw [List.getElem?_map, List.getElem?_eq_getElem hk]; rfl)
    obtain ⟨g, g0, ge⟩ := lowM_scale (rows.getD k [])
    refine ⟨⟨(g : Rat), fun _ => 0, cast_ne g0, .zero, fun j => ?_⟩, fun j hj => absurd hj (Nat.not_lt_zero j)⟩
    rw [e]
    show (g : Rat) * (((lowM (rows.getD k [])).getD j 0 : Int) : Rat) = (((rows.getD k []).getD j 0 : Int) : Rat) + 0
    rw [← ge j, Rat.intCast_mul]; grind
  spent := fun a ha => by cases ha
theorem GJ.next {rows : List (List Int)} {w c at_ : Nat} {cells : List (List Int)} {piv : List (Nat × Nat)} (h : GJ rows w c cells piv) (hat : at_ < rows.length) (hn : at_ ∉ piv.map (·.1)) (hp : (cells.getD at_ []).getD c 0 ≠ 0) : GJ rows w (c + 1) (sweptM cells at_ c) ((at_, c) :: piv) := by
  have hat2 : at_ < cells.length := by rw [h.len]; exact hat
  have mem : ∀ k, k < cells.length → cells.getD k [] ∈ cells := fun k hk => by rw [getD_of (List.getElem?_eq_getElem hk)]; exact List.getElem_mem hk
  refine h.step hat hn hp (by rw [swept_len, h.len]) (fun x hx => ?_) (fun x hx => ?_) (by rw [swept_at hat2, if_pos (.inl rfl)]) fun k hk hka => swept_swp (by rw [h.len]; exact hk) hka hat2 h.wid hp
  · obtain ⟨k, hk, rfl⟩ := List.mem_map.mp hx
    have hk := List.mem_range.mp hk
    split
    · exact h.wid _ (mem k hk)
    · rw [lowM_len, joinedM, List.length_map, List.length_zip, h.wid _ (mem k hk), h.wid _ (mem _ hat2), Nat.min_self]
  · obtain ⟨k, hk, rfl⟩ := List.mem_map.mp hx
    have hk := List.mem_range.mp hk
    split
    · exact h.low _ (mem k hk)
    · exact lowM_prim _
structure RedG where
  rows : List (List Int)
  gd : List Int → D
  w0 : Nat
  width : Nat
  B : Nat
def dictOf (piv : List (Nat × Nat)) : List (D × D) := piv.reverse.map fun a => (.int (a.2 : Nat), .int (a.1 : Nat))
def natD (n : Nat) : D := .int (n : Nat)
def Pre_red (g : RedG) (ds : List D) : Prop := ds = [.list (g.rows.map g.gd), .int (g.width : Nat)] ∧ (∀ r, itemsD (g.gd r) = some (r.map PyData.int)) ∧ (∀ r ∈ g.rows, r.length = g.w0) ∧ g.width ≤ g.w0 ∧ g.w0 ≤ 1000 ∧ g.rows.length ≤ 1000 ∧ 0 < g.B ∧ (∀ r ∈ g.rows, ∀ j, (r.getD j 0).natAbs ≤ g.B) ∧ Wed.fac (g.rows.length + 1) * g.B ^ (g.rows.length + 1) < 2 ^ 3900
structure RedOk (g : RedG) (c : Nat) (cells : List (List Int)) (piv : List (Nat × Nat)) (loose : List Nat) : Prop where
  gj : GJ g.rows g.w0 c cells piv
  lm : ∀ x, x ∈ loose ↔ x < c ∧ x ∉ piv.map (·.2)
  ll : loose.length + piv.length = c
  nd : loose.Nodup
def Post_red (g : RedG) (d : D) : Prop := ∃ cells piv loose, RedOk g g.width cells piv loose ∧ d = .tuple [.list (cells.map listI), .dict (dictOf piv), .list (loose.map natD)]

theorem RedOk.skip {g : RedG} {c : Nat} {cells : List (List Int)} {piv : List (Nat × Nat)} {loose : List Nat} (h : RedOk g c cells piv loose) (hz : ∀ k, k < g.rows.length → k ∉ piv.map (·.1) → (cells.getD k []).getD c 0 = 0) : RedOk g (c + 1) cells piv (loose ++ [c]) := by
  refine ⟨h.gj.skip hz, fun x => ?_, by rw [List.length_append]; have := h.ll; simp only [List.length_cons, List.length_nil]; omega, ?_⟩
  · rw [List.mem_append, List.mem_singleton, h.lm]
    constructor
    · rintro (⟨a, b⟩ | rfl)
      · exact ⟨Nat.lt_succ_of_lt a, b⟩
      · refine ⟨Nat.lt_succ_self _, fun z => ?_⟩
        obtain ⟨a, ha, e⟩ := List.mem_map.mp z
        have := (h.gj.pc a ha).1
        omega
    · rintro ⟨a, b⟩
      by_cases hx : x = c
      · exact .inr hx
      · exact .inl ⟨by omega, b⟩
  · rw [List.nodup_append]
    refine ⟨h.nd, by simp, fun a ha b hb => ?_⟩
    rw [List.mem_singleton.mp hb]
    have := (h.lm a).mp ha
    omega
theorem RedOk.next {g : RedG} {c at_ : Nat} {cells : List (List Int)} {piv : List (Nat × Nat)} {loose : List Nat} (h : RedOk g c cells piv loose) (hat : at_ < g.rows.length) (hn : at_ ∉ piv.map (·.1)) (hp : (cells.getD at_ []).getD c 0 ≠ 0) : RedOk g (c + 1) (sweptM cells at_ c) ((at_, c) :: piv) loose := by
  refine ⟨h.gj.next hat hn hp, fun x => ?_, by rw [List.length_cons]; have := h.ll; omega, h.nd⟩
  rw [h.lm, List.map_cons, List.mem_cons]
  constructor
  · rintro ⟨a, b⟩
    exact ⟨Nat.lt_succ_of_lt a, fun z => z.elim (fun e => by have e : x = c := e; omega) b⟩
  · rintro ⟨a, b⟩
    refine ⟨?_, fun z => b (.inr z)⟩
    have : x ≠ c := fun e => b (.inl e)
    omega
theorem scal_small {g : List (List Int) × List Bool × Nat} (d : D) (h : Post_small g d) : Scal d := by
  rcases h with ⟨rfl, _⟩ | ⟨k, _, rfl, _⟩
  · exact True.intro
  · exact True.intro
theorem rep_map (n : Nat) : (List.replicate n [PyData.bool false]).flatten = (List.replicate n false).map PyData.bool := by
  induction n with
  | zero => rfl
  | succ n ih =>
    rw [List.replicate_succ, List.flatten_cons, ih, List.replicate_succ]
    rfl
theorem ok_red (T : Txt K mg) : FnOk P w K mg base CX0 3 T.f_reduced T.fd_reduced ["rows", "width"] (spG K Pre_red Post_red) := by
  refine ok_wpG T.F_reduced sc_reduced ?_ (fun cdv A outer s H E hr => ⟨_, (pss_cons (ps_setLc (i := 2) (own := [("row", 8)]) (by rfl) sc_reduced.nd rfl rfl (sw_true rfl rfl rfl rfl) (kpi_seq (K := K) (pv 0)) (by refine blkOk_by ?_; rfl) (fun _ _ _ _ _ => pg_name (i := 8) sc_reduced.nd rfl (by first | exact Or.inl rfl | exact Or.inr rfl)) (fun _ _ _ _ _ => pts_nil) (fun _ _ _ _ _ => (pe_call (ok_lowest T) (hr.mono (by decide)) (by rfl) T.g_lowest T.F_lowest.kp T.b_lowest .nil pass0 (pa_cons (pv 8) pa_nil))))
      (pss_cons (ps_set (i := 3) sc_reduced.nd rfl (by first | exact Or.inl rfl | exact Or.inr rfl) (pe_op op_rep (pe_lst (pa_cons pe_bl pa_nil)) (pe_callB (kx_len (K := K)) (by rfl) T.z_len (by decide +kernel) (pa_cons (pv 0) pa_nil))))
      (pss_cons (ps_set (i := 4) sc_reduced.nd rfl (by first | exact Or.inl rfl | exact Or.inr rfl) pe_dnewK)
      (pss_cons (ps_set (i := 5) sc_reduced.nd rfl (by first | exact Or.inl rfl | exact Or.inr rfl) (pe_lst pa_nil))
      (pss_cons (ps_for PassesOwn.never rfl (pi_range1 (by rfl) T.z_range (pa_cons (pv 1) pa_nil)) (pg_name (i := 6) sc_reduced.nd rfl (by first | exact Or.inl rfl | exact Or.inr rfl))
      (pss_cons (ps_set (i := 7) sc_reduced.nd rfl (by first | exact Or.inl rfl | exact Or.inr rfl) (pe_call (ok_small T) (hr.mono (by decide)) (by rfl) T.g_smallest T.F_smallest.kp T.b_smallest .nil pass0 (pa_cons (pv 2) (pa_cons (pv 3) (pa_cons (pv 6) pa_nil)))))
      (pss_one (ps_if (pt_cmpR op_isNQ (pv 7) pe_non (nomark _)) (pss_one (ps_expr (pe_bm PySem.F.plainAttrs_list PySem.F.slot_list_append PySem.F.type_list_append mt_append (pv 5) (pa_cons (pv 6) pa_nil)))) (pss_cons (ps_asg pe_bl (pg_sub (pv 3) (pv 7) set_list))
      (pss_cons (ps_dput (hu_of hr) (pv 4) (pv 6) (pv 7) rfl)
      (pss_one (ps_set (i := 2) sc_reduced.nd rfl (by first | exact Or.inl rfl | exact Or.inr rfl) (pe_call (ok_swept T) (hr.mono (by decide)) (by rfl) T.g_swept T.F_swept.kp T.b_swept .nil pass0 (pa_cons (pv 2) (pa_cons (pv 7) (pa_cons (pv 6) pa_nil))))))))))))
      (pss_one (ps_ret (pe_tup (pa_cons (pv 2) (pa_cons (pv 4) (pa_cons (pv 5) pa_nil))))))))))), ?_⟩)
  all_goals (try simp only [nox_K, blk_K, cx_K])
  · rintro g ds ⟨rfl, _⟩; rfl
  · rintro g ds ⟨rfl, hg, hw0, hw, hw1, hr, hB0, hB, hBB⟩
    have hB2 : ∀ r ∈ g.rows, ∀ n ∈ r, Lt 3900 n := fun r hr2 n hn => by
      obtain ⟨j, hj, rfl⟩ := List.mem_iff_getElem.mp hn
      have a := hB r hr2 j
      rw [getD_of (List.getElem?_eq_getElem hj)] at a
      refine Nat.lt_of_le_of_lt a (Nat.lt_of_le_of_lt ?_ hBB)
      rw [Nat.pow_succ]
      exact Nat.le_trans (Nat.le_mul_of_pos_left _ (Nat.mul_pos (fac_pos _) (Nat.pow_pos hB0))) (by rw [Nat.mul_assoc]; exact Nat.le_refl _)
    refine wp_seq (wp_asg (ED.of (EN.ed (en_lc1 (xs := g.rows) (g := g.gd) (f := fun r => listI (lowM r)) (ei_seq (ed_var rfl) rfl) (sz_small (by omega)) fun r hr2 => ?_)) (show PyData.list _ = .list ((g.rows.map lowM).map listI) by rw [List.map_map]; rfl)) ?_)
    · have cl : R_lowest [g.gd r] (listI (lowM r)) := ⟨_, r, rfl, hg r, fun n hn => (hB2 r hr2 n hn).mono, by rw [hw0 r hr2]; omega, rfl⟩
      repeat' first | walk_at "ev2" | exact cl | fail
    refine wp_seq (wp_asgN (EN.of (es := (List.replicate g.rows.length false).map PyData.bool) (en_rep (k := (g.rows.length : Nat)) (en_lst (ea_cons ed_bl ea_nil) (by decide)) (ED.of (ed_len (ed_var rfl) rfl) (by rw [List.length_map])) (by omega) (sz_small (by rw [Int.toNat_natCast]; show 1 * g.rows.length ≤ _; omega))) (by rw [Int.toNat_natCast]; exact rep_map _)) ?_)
    refine wp_seq (wp_newDict ?_)
    refine wp_seq (wp_asgN (by walk_at "ev") ?_)
    refine wp_seq (wp_forG (xs := List.range g.width) (g := fun k => PyData.int (k : Nat))
      (fun c δ => ∃ (cells : List (List Int)) (piv : List (Nat × Nat)) (loose : List Nat) (spent : List Bool) (x y z : SV), δ = [.val (.list (g.rows.map g.gd)), .val (.int (g.width : Nat)), .val (.list (cells.map listI)), .own (.l (spent.map PyData.bool)), .own (.m (dictOf piv)), .own (.l (loose.map natD)), x, y, z] ∧ c ≤ g.width ∧ RedOk g c cells piv loose ∧ spent.length = g.rows.length ∧ ∀ k, k < g.rows.length → (spent.getD k true = true ↔ k ∈ piv.map (·.1)))
      (by repeat' first | walk_at "ev2" | (show (_ : Nat) ≤ _; omega) | fail) ⟨_, [], [], _, _, _, _, rfl, Nat.zero_le _, ⟨.start hw0, fun x => ⟨fun z => (by cases z), fun z => absurd z.1 (Nat.not_lt_zero x)⟩, rfl, List.nodup_nil⟩, List.length_replicate .., fun k hk => ?_⟩ ?_ ?_)
    · rw [getD_of (x := false) (by rw [List.getElem?_replicate, if_pos hk])]
      simp
    · rintro c c' δ ex ⟨cells, piv, loose, spent, x, y, z, rfl, hc, ok, sl, sp⟩
      have hcw : c < g.width := by
        have := (List.getElem?_eq_some_iff.mp ex).1
        rwa [List.length_range] at this
      have : c' = c := by
        rw [List.getElem?_range hcw] at ex
        exact (Option.some.inj ex).symm
      subst this
      have hcl := ok.gj.len
      have hlt : ∀ u ∈ cells, ∀ n ∈ u, Lt 3900 n := fun u hu n hn => by
        obtain ⟨j, hj, rfl⟩ := List.mem_iff_getElem.mp hn
        have a := ok.gj.size hB0 hB hu j
        rw [getD_of (List.getElem?_eq_getElem hj)] at a
        exact Nat.lt_of_le_of_lt a hBB
      refine wp_seq (wp_asgP (ep_thaw (i := 3) rfl (ep_callG (cells, spent, c') (by walk_at "ev") ⟨rfl, fun u hu => by rw [ok.gj.wid u hu]; show c' < _; omega, by show spent.length = cells.length; omega⟩) scal_small) fun d hd => ?_)
      rcases hd with ⟨rfl, hz⟩ | ⟨k, hk, rfl, hk1, hk2⟩
      · refine wp_if (b := true) (et_test (ED.of (ed_isN (d := .none) (ed_var rfl)) rfl)) (fun _ => ?_) (fun h => nomatch h)
        have hz : ∀ k, k < cells.length → spent.getD k true = false → (cells.getD k []).getD c' 0 = 0 := hz
        refine wp_app (d := natD c') (i := 5) rfl (ed_var rfl) (by rw [List.length_map]; exact small1000 (by have := ok.ll; omega)) ⟨cells, piv, loose ++ [c'], spent, .val (.int (c' : Nat)), .val .none, z, ?_, hcw, ok.skip fun k hk hn => hz k (by omega) ?_, sl, sp⟩
        · rw [List.map_append]; rfl
        · cases e : spent.getD k true with
          | false => rfl
          | true => exact absurd ((sp k hk).mp e) hn
      · have hk : k < cells.length := hk
        have hk1 : spent.getD k true = false := hk1
        have hk2 : (cells.getD k []).getD c' 0 ≠ 0 := hk2
        have hkr : k < g.rows.length := by omega
        have hkn : k ∉ piv.map (·.1) := fun z => by
          have := (sp k hkr).mpr z
          rw [hk1] at this
          cases this
        refine wp_if (b := false) (et_test (ED.of (ed_isN (d := .int (k : Nat)) (ed_var rfl)) rfl)) (fun h => nomatch h) (fun _ => ?_)
        refine wp_seq (wp_setOwn (i := 3) (k := (k : Nat)) (j := k) rfl (d := .bool true) ed_bl (ed_var rfl) (ixN_at (by omega) (by rw [List.length_map]; omega) (Int.toNat_natCast k)) ?_)
        refine wp_seq (wp_dputNew (i := 4) (k := (c' : Nat)) (d := .int (k : Nat)) rfl (ed_var rfl) (ed_var rfl) (fun p hp z => ?_) (small1000 (by unfold dictOf; rw [List.length_map, List.length_reverse]; have := ok.ll; omega)) ?_)
        · obtain ⟨a, ha, rfl⟩ := List.mem_map.mp hp
          have := (ok.gj.pc a (List.mem_reverse.mp ha)).1
          have z : PyData.int (a.2 : Nat) = .int (c' : Nat) := z
          injection z with z
          omega
        have cs : R_swept [.list (cells.map listI), .int (k : Nat), .int (c' : Nat)] _ := ⟨cells, k, c', rfl, hk, hk2, fun u hu => ⟨by rw [ok.gj.wid u hu]; omega, by rw [ok.gj.wid u hu]; omega, hlt u hu⟩, by omega, rfl⟩
        refine wp_asg (by repeat' first | walk_at "ev2" | exact cs | fail) ⟨sweptM cells k c', (k, c') :: piv, loose, spent.set k true, .val (.int (c' : Nat)), .val (.int (k : Nat)), z, ?_, hcw, ok.next hkr hkn hk2, by rw [List.length_set]; exact sl, fun i hi => ?_⟩
        · rw [List.map_set]
          unfold dictOf
          rw [List.reverse_cons, List.map_append]
          rfl
        · rw [List.map_cons, List.mem_cons]
          by_cases hik : i = k
          · subst hik
            rw [getD_of (x := true) (by rw [List.getElem?_set_self (by omega)])]
            exact ⟨fun _ => .inl rfl, fun _ => rfl⟩
          · rw [List.getD_eq_getElem?_getD, List.getElem?_set_ne (fun e => hik e.symm), ← List.getD_eq_getElem?_getD, sp i hi]
            exact ⟨.inr, fun z => z.elim (fun e => absurd e hik) id⟩
    · rintro δ ⟨cells, piv, loose, spent, x, y, z, rfl, hc, ok, sl, sp⟩
      rw [List.length_range] at ok
      refine wp_freezeD 4 rfl (wp_freeze 5 rfl (wp_ret (d := .tuple [.list (cells.map listI), .dict (dictOf piv), .list (loose.map natD)]) (by walk_at "ev") ⟨cells, piv, loose, ok, rfl⟩))

def Sm (k : Nat) (a : Int × Int) : Prop := Lt k a.1 ∧ Lt k a.2 ∧ a.2 ≠ 0
/-! ### the law's own helpers -/
def R_cell (ds : List D) (d : D) : Prop := ∃ (ns : List Int) (k : Nat), ds = [.list (ns.map PyData.int), .int k] ∧ d = .int (ns.getD k 0)
theorem ok_u_law_cell (T : Txt K mg) : FnOk P w K mg base CX0 1 T.f_u_law_cell T.fd_u_law_cell ["script", "k"] (spD K R_cell) := by
  refine ok_wp T.F_u_law_cell sc_u_law_cell ?_ (fun cdv A outer s H E hr => ⟨_, (pss_cons (ps_if (pt_cmpR op_lt (pv 1) (pe_callB (kx_len (K := K)) (by rfl) T.z_len (by decide +kernel) (pa_cons (pv 0) pa_nil)) (nomark _)) (pss_one (ps_ret (pe_ix (kx_ix (K := K)) (pv 0) (pv 1) (fun _ _ => rfl)))) pss_nil)
      (pss_one (ps_ret pe_int))), ?_⟩)
  all_goals (try simp only [nox_K, blk_K, cx_K])
  · rintro ds d ⟨ns, k, rfl, _⟩; rfl
  · rintro ds d ⟨ns, k, rfl, rfl⟩
    refine wp_seq (wp_if (by walk_at "ev") (fun h => ?_) (fun h => ?_))
    · have h : (k : Int) < ((ns.map PyData.int).length : Nat) := of_decide_eq_true h
      rw [List.length_map] at h
      have hk : k < ns.length := by omega
      refine wp_ret (d := .int ns[k]) (by walk_at "ev"; exact atI_map (List.getElem?_eq_getElem hk)) ?_
      show PyData.int _ = .int _
      rw [List.getD_eq_getElem?_getD, List.getElem?_eq_getElem hk]
      rfl
    · have h : ¬ (k : Int) < ((ns.map PyData.int).length : Nat) := of_decide_eq_false h
      rw [List.length_map] at h
      refine wp_next (wp_ret (by walk_at "ev") ?_)
      show PyData.int _ = .int _
      rw [List.getD_eq_getElem?_getD, List.getElem?_eq_none (by omega)]
      rfl
def mixM (cell : Int) (k : Nat) : Int :=
  let m1 := (cell * 48271 + (k : Int) * 69621 + 11) % 2147483647
  ((m1 * m1 + 16807 * (k : Int) + 5) % 998244353).fdiv 7
def partsM (cell : Int) : List Int → Nat → Int → List Int
  | [], _, _ => []
  | s :: ss, k, left => (if left ≥ 0 then left % s else mixM cell k % s) :: partsM cell ss (k + 1) (if left ≥ 0 then left.fdiv s else left)
def partsOf (cell : Int) (sizes : List Int) : List Int := partsM cell sizes 0 (cell - 10 ^ 18)
def R_parts (ds : List D) (d : D) : Prop := ∃ (cell : Int) (sizes : List Int), ds = [.int cell, .list (sizes.map PyData.int)] ∧ (∀ s ∈ sizes, 0 < s ∧ Lt 8000 s) ∧ sizes.length ≤ 1000 ∧ d = .list ((partsOf cell sizes).map PyData.int)
theorem ok_u_law_parts (T : Txt K mg) : FnOk P w K mg base CX0 1 T.f_u_law_parts T.fd_u_law_parts ["cell", "sizes"] (spD K R_parts) := by
  refine ok_wp T.F_u_law_parts sc_u_law_parts ?_ (fun cdv A outer s H E hr => ⟨_, (pss_cons (ps_set (i := 2) sc_u_law_parts.nd rfl (by first | exact Or.inl rfl | exact Or.inr rfl) (pe_lst pa_nil))
      (pss_cons (ps_set (i := 3) sc_u_law_parts.nd rfl (by first | exact Or.inl rfl | exact Or.inr rfl) (pe_op op_sub (pv 0) (pe_op op_pow pe_int pe_int)))
      (pss_cons (ps_for PassesOwn.never rfl (pi_range1 (by rfl) T.z_range (pa_cons (pe_callB (kx_len (K := K)) (by rfl) T.z_len (by decide +kernel) (pa_cons (pv 1) pa_nil)) pa_nil)) (pg_name (i := 4) sc_u_law_parts.nd rfl (by first | exact Or.inl rfl | exact Or.inr rfl))
      (pss_one (ps_if (pt_cmpR op_ge (pv 3) pe_int (nomark _)) (pss_cons (ps_expr (pe_bm PySem.F.plainAttrs_list PySem.F.slot_list_append PySem.F.type_list_append mt_append (pv 2) (pa_cons (pe_op op_mod (pe_callTy cr_intQ (by rfl) T.z_int (by decide +kernel) (pa_cons (pv 3) pa_nil)) (pe_ix (kx_ix (K := K)) (pv 1) (pv 4) (fun _ _ => rfl))) pa_nil)))
      (pss_one (ps_set (i := 3) sc_u_law_parts.nd rfl (by first | exact Or.inl rfl | exact Or.inr rfl) (pe_op op_fdivX (pv 3) (pe_ix (kx_ix (K := K)) (pv 1) (pv 4) (fun _ _ => rfl)))))) (pss_cons (ps_set (i := 5) sc_u_law_parts.nd rfl (by first | exact Or.inl rfl | exact Or.inr rfl) (pe_op op_mod (pe_callTy cr_intQ (by rfl) T.z_int (by decide +kernel) (pa_cons (pe_op op_add (pe_op op_add (pe_op op_mulX (pv 0) pe_int) (pe_op op_mulX (pv 4) pe_int)) pe_int) pa_nil)) pe_int))
      (pss_cons (ps_set (i := 5) sc_u_law_parts.nd rfl (by first | exact Or.inl rfl | exact Or.inr rfl) (pe_op op_mod (pe_callTy cr_intQ (by rfl) T.z_int (by decide +kernel) (pa_cons (pe_op op_add (pe_op op_add (pe_op op_mulX (pv 5) (pv 5)) (pe_op op_mulX pe_int (pv 4))) pe_int) pa_nil)) pe_int))
      (pss_one (ps_expr (pe_bm PySem.F.plainAttrs_list PySem.F.slot_list_append PySem.F.type_list_append mt_append (pv 2) (pa_cons (pe_op op_mod (pe_callTy cr_intQ (by rfl) T.z_int (by decide +kernel) (pa_cons (pe_op op_fdivX (pv 5) pe_int) pa_nil)) (pe_ix (kx_ix (K := K)) (pv 1) (pv 4) (fun _ _ => rfl))) pa_nil)))))))))
      (pss_one (ps_ret (pv 2)))))), ?_⟩)
  all_goals (try simp only [nox_K, blk_K, cx_K])
  · rintro ds d ⟨cell, sizes, rfl, _⟩; rfl
  · rintro ds d ⟨cell, sizes, rfl, hs, hl, rfl⟩
    refine wp_seq (wp_asgN (by walk_at "ev") ?_)
    refine wp_seq (wp_asg (ED.of (d' := .int (cell - 10 ^ 18)) (by walk_at "ev") rfl) ?_)
    refine wp_seq (wp_forG (xs := List.range sizes.length) (g := fun k => PyData.int (k : Nat))
      (fun k δ => ∃ (ps : List Int) (left : Int) (z w : SV), δ = [.val (.int cell), .val (.list (sizes.map PyData.int)), .own (.l (ps.map PyData.int)), .val (.int left), z, w] ∧ k ≤ sizes.length ∧ ps.length = k ∧ ps ++ partsM cell (sizes.drop k) k left = partsOf cell sizes)
      (by repeat' first | walk_at "ev2" | (show (_ : Int) = _; rw [List.length_map]; done) | (show (_ : Nat) ≤ _; omega) | fail) ⟨[], _, _, _, rfl, Nat.zero_le _, rfl, by rw [List.drop_zero]; rfl⟩ ?_ ?_)
    · rintro k x δ ex ⟨ps, left, z, w, rfl, hk, hp, inv⟩
      have hk2 : k < sizes.length := by
        have := (List.getElem?_eq_some_iff.mp ex).1
        rwa [List.length_range] at this
      have hx : x = k := by
        rw [List.getElem?_range hk2] at ex
        exact (Option.some.inj ex).symm
      subst hx
      obtain ⟨s0, s1⟩ := hs sizes[x] (List.getElem_mem hk2)
      have at1 : atI (sizes.map PyData.int) (x : Int) = some (.int sizes[x]) := atI_map (List.getElem?_eq_getElem hk2)
      rw [List.drop_eq_getElem_cons hk2] at inv
      refine wp_if (by walk_at "ev") (fun h => ?_) (fun h => ?_)
      · have h : left ≥ 0 := of_decide_eq_true h
        refine wp_seq (wp_app (d := .int (left % sizes[x])) rfl (by repeat' first | walk_at "ev2" | exact at1 | exact s0 | fail) (by rw [List.length_map]; exact small1000 (by omega)) ?_)
        refine wp_asg (by repeat' first | walk_at "ev2" | exact at1 | exact divX (by omega) s1 | fail) ?_
        refine ⟨ps ++ [left % sizes[x]], left.fdiv sizes[x], .val (.int x), w, ?_, hk2, by rw [List.length_append, hp]; rfl, ?_⟩
        · rw [List.map_append]; rfl
        · rw [← inv, partsM, if_pos h, if_pos h, List.append_assoc]; rfl
      · have h : ¬ left ≥ 0 := of_decide_eq_false h
        refine wp_seq (wp_asg (by repeat' first | walk_at "ev2" | (show (0 : Int) < _; decide) | exact mulR (by decide) | exact mulR (by omega) | fail) ?_)
        have m0 : 0 ≤ (cell * 48271 + (x : Int) * 69621 + 11) % 2147483647 := Int.emod_nonneg _ (by decide)
        have m1 : (cell * 48271 + (x : Int) * 69621 + 11) % 2147483647 < 2147483647 := Int.emod_lt_of_pos _ (by decide)
        refine wp_seq (wp_asg (by repeat' first | walk_at "ev2" | (show (0 : Int) < _; decide) | exact mulL (by decide) | exact mulL (by omega) | fail) ?_)
        refine wp_app (d := .int (mixM cell x % sizes[x])) rfl (by repeat' first | walk_at "ev2" | exact at1 | exact s0 | exact divX (k := 10) (by decide) (by unfold Lt; decide) | fail) (by rw [List.length_map]; exact small1000 (by omega)) ?_
        refine ⟨ps ++ [mixM cell x % sizes[x]], left, .val (.int x), .val (.int ((((cell * 48271 + (x : Int) * 69621 + 11) % 2147483647) * ((cell * 48271 + (x : Int) * 69621 + 11) % 2147483647) + 16807 * (x : Int) + 5) % 998244353)), ?_, hk2, by rw [List.length_append, hp]; rfl, ?_⟩
        · rw [List.map_append]; rfl
        · rw [← inv, partsM, if_neg h, if_neg h, List.append_assoc]; rfl
    · rintro δ ⟨ps, left, z, w, rfl, hk, hp, inv⟩
      rw [List.length_range] at hp inv
      rw [List.drop_length, partsM, List.append_nil] at inv
      refine wp_retOwn rfl ?_
      show _ = _
      rw [inv]
def R_isInt (ds : List D) (d : D) : Prop := ∃ i : Int, ds = [.int i] ∧ d = .bool true
theorem ok_u_law_is_integer (T : Txt K mg) : FnOk P w K mg base CX0 1 T.f_u_law_is_integer T.fd_u_law_is_integer ["actual"] (spD K R_isInt) := by
  refine ok_wp T.F_u_law_is_integer sc_u_law_is_integer ?_ (fun cdv A outer s H E hr => ⟨_, (pss_one (ps_ret (pe_and (pe_callB (kx_isi (K := K)) (by rfl) T.z_isinstance (by decide +kernel) (pa_cons (pv 0) (pa_cons (pe_bltn (v := .ty "int") (by rfl) T.z_int (by decide +kernel) rfl) pa_nil))) (pe_one (pe_not (pe_callB (kx_isi (K := K)) (by rfl) T.z_isinstance (by decide +kernel) (pa_cons (pv 0) (pa_cons (pe_bltn (v := .ty "bool") (by rfl) T.z_bool (by decide +kernel) rfl) pa_nil)))))))), ?_⟩)
  all_goals (try simp only [nox_K, blk_K, cx_K])
  · rintro ds d ⟨i, rfl, _⟩; rfl
  · rintro ds d ⟨i, rfl, rfl⟩
    refine wp_ret (by walk_at "ev") ?_
    rfl
def Euc (k x y : Nat) : Prop := if k = 0 then x < 2 ^ 1900 ∧ y < 2 ^ 1900 else (y = 0 ∨ y < x) ∧ x * y * 2 ^ (k - 1) ≤ 2 ^ 1900 * 2 ^ 1900
theorem Euc.next {k x y : Nat} (h : Euc k x y) (hy : y ≠ 0) : Euc (k + 1) y (x % y) := by
  have hr : x % y < y := Nat.mod_lt _ (Nat.pos_of_ne_zero hy)
  unfold Euc at *
  rw [if_neg (by omega)]
  refine ⟨.inr hr, ?_⟩
  rw [Nat.add_sub_cancel]
  by_cases hk : k = 0
  · subst hk
    rw [if_pos rfl] at h
    rw [Nat.pow_zero, Nat.mul_one]
    exact Nat.mul_le_mul (Nat.le_of_lt h.2) (Nat.le_trans (Nat.le_of_lt hr) (Nat.le_of_lt h.2))
  · rw [if_neg hk] at h
    obtain ⟨h1, h2⟩ := h
    have hyx : y < x := h1.resolve_left hy
    have e := Nat.mod_add_div x y
    have hq : 1 ≤ x / y := Nat.div_pos (Nat.le_of_lt hyx) (Nat.pos_of_ne_zero hy)
    have hy2 : y ≤ y * (x / y) := Nat.le_mul_of_pos_right _ hq
    have h3 : 2 * (x % y) ≤ x := by omega
    refine Nat.le_trans ?_ h2
    have ek : (2 : Nat) ^ k = 2 * 2 ^ (k - 1) := by
      cases k with
      | zero => exact absurd rfl hk
      | succ m => rw [Nat.add_sub_cancel, Nat.pow_succ']
    rw [ek, ← Nat.mul_assoc]
    refine Nat.mul_le_mul_right _ ?_
    rw [Nat.mul_assoc, Nat.mul_comm (x % y) 2, Nat.mul_comm x y]
    exact Nat.mul_le_mul_left _ h3
theorem Euc.last {x y : Nat} (h : Euc 4000 x y) : y = 0 := by
  unfold Euc at h
  rw [if_neg (by decide)] at h
  obtain ⟨h1, h2⟩ := h
  by_cases hy : y = 0
  · exact hy
  · have hx := h1.resolve_left hy
    have h3 : 1 ≤ x * y := Nat.mul_pos (by omega) (Nat.pos_of_ne_zero hy)
    rw [← Nat.pow_add] at h2
    have h4 : 1 * 2 ^ (4000 - 1) ≤ x * y * 2 ^ (4000 - 1) := Nat.mul_le_mul_right _ h3
    rw [Nat.one_mul] at h4
    have h5 : (2 : Nat) ^ (1900 + 1900) < 2 ^ (4000 - 1) := Nat.pow_lt_pow_right (by decide) (by decide)
    omega
def R_div (ds : List D) (d : D) : Prop := ∃ a b : Int, ds = [.int a, .int b] ∧ Lt 1900 a ∧ Lt 1900 b ∧ d = .int (Nat.gcd a.natAbs b.natAbs : Nat)
theorem ok_u_law_divisor (T : Txt K mg) : FnOk P w K mg base CX0 1 T.f_u_law_divisor T.fd_u_law_divisor ["a", "b"] (spD K R_div) := by
  refine ok_wp T.F_u_law_divisor sc_u_law_divisor ?_ (fun cdv A outer s H E hr => ⟨_, (pss_cons (ps_set (i := 0) sc_u_law_divisor.nd rfl (by first | exact Or.inl rfl | exact Or.inr rfl) (pe_callB cr_absQ (by rfl) T.z_abs (by decide +kernel) (pa_cons (pv 0) pa_nil)))
      (pss_cons (ps_set (i := 1) sc_u_law_divisor.nd rfl (by first | exact Or.inl rfl | exact Or.inr rfl) (pe_callB cr_absQ (by rfl) T.z_abs (by decide +kernel) (pa_cons (pv 1) pa_nil)))
      (pss_cons (ps_for PassesOwn.never rfl (pi_range1 (by rfl) T.z_range (pa_cons pe_int pa_nil)) (pg_name (i := 2) sc_u_law_divisor.nd rfl (by first | exact Or.inl rfl | exact Or.inr rfl))
      (pss_cons (ps_if (pt_cmpR (kx_eq (K := K) hr.units) (pv 1) pe_int (nomark _)) (pss_one (ps_ret (pv 0))) pss_nil)
      (pss_one (ps_par (i := 0) (j := 1) (by rfl) sc_u_law_divisor.nd rfl rfl (by decide) rfl rfl (pa_cons (pv 1) (pa_cons (pe_op op_mod (pe_callTy cr_intQ (by rfl) T.z_int (by decide +kernel) (pa_cons (pv 0) pa_nil)) (pv 1)) pa_nil)) (by rfl)))))
      (pss_one (ps_ret (pv 0)))))), ?_⟩)
  all_goals (try simp only [nox_K, blk_K, cx_K])
  · rintro ds d ⟨a, b, rfl, _⟩; rfl
  · rintro ds d ⟨a, b, rfl, ha, hb, rfl⟩
    refine wp_seq (wp_asg (by walk_at "ev") ?_)
    refine wp_seq (wp_asg (by walk_at "ev") ?_)
    refine wp_seq (wp_forG (xs := List.range 4000) (g := fun k => PyData.int (k : Nat))
      (fun k δ => ∃ (x y : Nat) (z : SV), δ = [.val (.int x), .val (.int y), z] ∧ Euc k x y ∧ Nat.gcd x y = Nat.gcd a.natAbs b.natAbs)
      (by repeat' first | walk_at "ev2" | (show (_ : Nat) ≤ _; decide) | fail) ⟨_, _, _, rfl, ?_, rfl⟩ ?_ ?_)
    · unfold Euc
      rw [if_pos rfl]
      exact ⟨ha, hb⟩
    · rintro k v δ ex ⟨x, y, z, rfl, eu, eg⟩
      refine wp_seq (wp_if (by walk_at "ev") (fun h => ?_) (fun h => ?_))
      · have h : (y : Int) = 0 := by
          have h : ((y : Int) == 0) = true := h
          exact eq_of_beq h
        have hy : y = 0 := by omega
        subst hy
        refine wp_ret (by walk_at "ev") ?_
        show PyData.int _ = .int _
        rw [← eg, Nat.gcd_zero_right]
      · have h : ((y : Int) == 0) = false := h
        have hy : y ≠ 0 := fun z => by
          subst z
          cases h
        refine wp_next (wp_par (by walk_at "ev" <;> (show (0 : Int) < _; omega)) ?_)
        refine ⟨y, x % y, _, rfl, eu.next hy, ?_⟩
        rw [← eg, Nat.gcd_comm x y, Nat.gcd_rec y x, Nat.gcd_comm]
    · rintro δ ⟨x, y, z, rfl, eu, eg⟩
      rw [List.length_range] at eu
      have hy := eu.last
      subst hy
      refine wp_ret (by walk_at "ev") ?_
      show PyData.int _ = .int _
      rw [← eg, Nat.gcd_zero_right]
def R_lnumber (ds : List D) (d : D) : Prop := ∃ n m : Int, ds = [.int n, .int m] ∧ m ≠ 0 ∧ Lt 1900 n ∧ Lt 1900 m ∧ d = numV (nrm n m)
theorem ok_u_law_number (T : Txt K mg) : FnOk P w K mg base CX0 2 T.f_u_law_number T.fd_u_law_number ["n", "d"] (spD K R_lnumber) := by
  refine ok_wp T.F_u_law_number sc_u_law_number ?_ (fun cdv A outer s H E hr => ⟨_, (pss_cons (ps_set (i := 2) sc_u_law_number.nd rfl (by first | exact Or.inl rfl | exact Or.inr rfl) (pe_call (ok_u_law_divisor T) (hr.mono (by decide)) (by rfl) T.g_u_law_divisor T.F_u_law_divisor.kp T.b_u_law_divisor .nil pass0 (pa_cons (pv 0) (pa_cons (pv 1) pa_nil))))
      (pss_cons (ps_if (pt_cmpR op_lt (pv 1) pe_int (nomark _)) (pss_one (ps_set (i := 2) sc_u_law_number.nd rfl (by first | exact Or.inl rfl | exact Or.inr rfl) (pe_un un_neg (pv 2)))) pss_nil)
      (pss_one (ps_ret (pe_tup (pa_cons (pe_op op_fdivX (pv 0) (pv 2)) (pa_cons (pe_op op_fdivX (pv 1) (pv 2)) pa_nil))))))), ?_⟩)
  all_goals (try simp only [nox_K, blk_K, cx_K])
  · rintro ds d ⟨n, m, rfl, _⟩; rfl
  · rintro ds d ⟨n, m, rfl, hm, hn, hl, rfl⟩
    have c1 : ∀ i, CDivX i (dvs n m) := fun i => divX (dvs_ne hm) (k := 1900) (by
      unfold Lt
      rw [dvs_abs]
      exact Nat.lt_of_le_of_lt (gcd_le hm) hl)
    refine wp_seq (wp_asg (by repeat' first | walk_at "ev2" | exact ⟨_, _, rfl, hn, hl, rfl⟩ | fail) ?_)
    refine wp_seq (wp_cut (fun δ => δ = [.val (.int n), .val (.int m), .val (.int (dvs n m))]) (wp_if (by walk_at "ev") (fun h => ?_) (fun h => ?_)) ?_)
    · have h : m < 0 := of_decide_eq_true h
      refine wp_asg (by walk_at "ev") ?_
      show _ = _
      unfold dvs
      rw [if_pos h]
      rfl
    · have h : ¬ m < 0 := of_decide_eq_false h
      refine wp_next ?_
      show _ = _
      unfold dvs
      rw [if_neg h]
      rfl
    · rintro δ rfl
      refine wp_ret (by repeat' first | walk_at "ev2" | exact c1 _ | fail) ?_
      rfl
def R_lplus (ds : List D) (d : D) : Prop := ∃ a b : Int × Int, ds = [numV a, numV b] ∧ a.2 ≠ 0 ∧ b.2 ≠ 0 ∧ (Lt 1900 a.1 ∧ Lt 1900 a.2 ∧ Lt 1900 b.1 ∧ Lt 1900 b.2) ∧ Lt 1900 (a.1 * b.2 + b.1 * a.2) ∧ Lt 1900 (a.2 * b.2) ∧ d = numV (nrm (a.1 * b.2 + b.1 * a.2) (a.2 * b.2))
theorem ok_u_law_plus (T : Txt K mg) : FnOk P w K mg base CX0 3 T.f_u_law_plus T.fd_u_law_plus ["a", "b"] (spD K R_lplus) := by
  refine ok_wp T.F_u_law_plus sc_u_law_plus ?_ (fun cdv A outer s H E hr => ⟨_, (pss_one (ps_ret (pe_call (ok_u_law_number T) (hr.mono (by decide)) (by rfl) T.g_u_law_number T.F_u_law_number.kp T.b_u_law_number .nil pass0 (pa_cons (pe_op op_add (pe_op op_mulX (pe_ix (kx_ix (K := K)) (pv 0) pe_int (fun _ _ => rfl)) (pe_ix (kx_ix (K := K)) (pv 1) pe_int (fun _ _ => rfl))) (pe_op op_mulX (pe_ix (kx_ix (K := K)) (pv 1) pe_int (fun _ _ => rfl)) (pe_ix (kx_ix (K := K)) (pv 0) pe_int (fun _ _ => rfl)))) (pa_cons (pe_op op_mulX (pe_ix (kx_ix (K := K)) (pv 0) pe_int (fun _ _ => rfl)) (pe_ix (kx_ix (K := K)) (pv 1) pe_int (fun _ _ => rfl))) pa_nil))))), ?_⟩)
  all_goals (try simp only [nox_K, blk_K, cx_K])
  · rintro ds d ⟨a, b, rfl, _⟩; rfl
  · rintro ds d ⟨a, b, rfl, a0, b0, ⟨a1, a2, b1, b2⟩, hn, hl, rfl⟩
    have h0 : a.2 * b.2 ≠ 0 := Int.mul_ne_zero a0 b0
    refine wp_ret (by repeat' first | walk_at "ev2" | exact mulX a1 b2 | exact mulX b1 a2 | exact mulX a2 b2 | exact ⟨_, _, rfl, h0, hn, hl, rfl⟩ | fail) ?_
    rfl
def R_ltimes (ds : List D) (d : D) : Prop := ∃ a b : Int × Int, ds = [numV a, numV b] ∧ a.2 ≠ 0 ∧ b.2 ≠ 0 ∧ (Lt 1900 a.1 ∧ Lt 1900 a.2 ∧ Lt 1900 b.1 ∧ Lt 1900 b.2) ∧ Lt 1900 (a.1 * b.1) ∧ Lt 1900 (a.2 * b.2) ∧ d = numV (nrm (a.1 * b.1) (a.2 * b.2))
theorem ok_u_law_times (T : Txt K mg) : FnOk P w K mg base CX0 3 T.f_u_law_times T.fd_u_law_times ["a", "b"] (spD K R_ltimes) := by
  refine ok_wp T.F_u_law_times sc_u_law_times ?_ (fun cdv A outer s H E hr => ⟨_, (pss_one (ps_ret (pe_call (ok_u_law_number T) (hr.mono (by decide)) (by rfl) T.g_u_law_number T.F_u_law_number.kp T.b_u_law_number .nil pass0 (pa_cons (pe_op op_mulX (pe_ix (kx_ix (K := K)) (pv 0) pe_int (fun _ _ => rfl)) (pe_ix (kx_ix (K := K)) (pv 1) pe_int (fun _ _ => rfl))) (pa_cons (pe_op op_mulX (pe_ix (kx_ix (K := K)) (pv 0) pe_int (fun _ _ => rfl)) (pe_ix (kx_ix (K := K)) (pv 1) pe_int (fun _ _ => rfl))) pa_nil))))), ?_⟩)
  all_goals (try simp only [nox_K, blk_K, cx_K])
  · rintro ds d ⟨a, b, rfl, _⟩; rfl
  · rintro ds d ⟨a, b, rfl, a0, b0, ⟨a1, a2, b1, b2⟩, hn, hl, rfl⟩
    have h0 : a.2 * b.2 ≠ 0 := Int.mul_ne_zero a0 b0
    refine wp_ret (by repeat' first | walk_at "ev2" | exact mulX a1 b1 | exact mulX a2 b2 | exact ⟨_, _, rfl, h0, hn, hl, rfl⟩ | fail) ?_
    rfl

/-! ### the law's rank -/
def fracD (r : List (Int × Int)) : D := .list (r.map numV)
def R_lrank (ds : List D) (d : D) : Prop := ∃ (rows : List (List Int)) (gd : List Int → D) (w B t : Nat), ds = [.list (rows.map gd), .int (w : Nat)] ∧ (∀ r, itemsD (gd r) = some (r.map PyData.int)) ∧ (∀ r ∈ rows, r.length = w) ∧ rows.length ≤ 1000 ∧ w ≤ 1000 ∧ 0 < B ∧ (∀ r ∈ rows, ∀ j, (r.getD j 0).natAbs ≤ B) ∧ Wed.fac rows.length * B ^ rows.length < 2 ^ 470 ∧ Elim.Rk (RowsA rows) t ∧ d = .int (t : Nat)
theorem LE.start {rows : List (List Int)} {w : Nat} (hw : ∀ r ∈ rows, r.length = w) : LE rows w 0 (rows.map fun r => (rowF r, r.map fun n => (n, (1 : Int)))) [] [] where
  el := Elim.El.nil
  pc := fun p hp => by cases hp
  src := fun q => by
    constructor
    · rintro (h | ⟨x, hx, rfl⟩)
      · cases h
      · obtain ⟨r, hr, rfl⟩ := List.mem_map.mp hx
        exact List.mem_map.mpr ⟨r, hr, rfl⟩
    · intro h
      obtain ⟨r, hr, rfl⟩ := List.mem_map.mp h
      exact .inr ⟨_, List.mem_map.mpr ⟨r, hr, rfl⟩, rfl⟩
  cnt := by rw [List.length_map]; exact Nat.zero_add _
  row := fun x hx => by
    obtain ⟨r, hr, rfl⟩ := List.mem_map.mp hx
    have e : ∀ j, (r.map fun n => (n, (1 : Int))).getD j (0, 1) = (r.getD j 0, 1) := fun j => by
      by_cases hj : j < r.length
      · rw [getD_of (x := r[j]) (List.getElem?_eq_getElem hj)]
        exact getD_of (by rw [List.getElem?_map, List.getElem?_eq_getElem hj]; rfl)
      · rw [List.getD_eq_getElem?_getD, List.getElem?_eq_none (by rw [List.length_map]; omega), List.getD_eq_getElem?_getD, List.getElem?_eq_none (by omega)]; rfl
    refine ⟨by rw [List.length_map]; exact hw r hr, fun j => ?_, ⟨fun _ => 0, .zero, fun j => ?_⟩, fun j hj => absurd hj (Nat.not_lt_zero j)⟩
    · show Red ((r.map fun n => (n, (1 : Int))).getD j (0, 1))
      rw [e]
      exact ⟨Int.one_pos, Nat.gcd_one_right _⟩
    · show val ((r.map fun n => (n, (1 : Int))).getD j (0, 1)) = ((r.getD j 0 : Int) : Rat) + 0
      rw [e]
      show ((r.getD j 0 : Int) : Rat) / ((1 : Int) : Rat) = _
      have : ((1 : Int) : Rat) = 1 := rfl
      rw [this]; grind
theorem atI_frac {r : List (Int × Int)} {c : Nat} (h : c < r.length) : itemD (fracD r) (c : Int) = some (numV (r.getD c (0, 1))) := by
  show atI (r.map numV) (c : Int) = _
  rw [getD_of (List.getElem?_eq_getElem h)]
  exact atI_map (List.getElem?_eq_getElem h)
theorem Lt.pow {k : Nat} {n : Int} {M : Nat} (h : n.natAbs ≤ M) (hM : M < 2 ^ k) : Lt k n := Nat.lt_of_le_of_lt h hM
theorem nrm_le1 (n m : Int) (h : m ≠ 0) : (nrm n m).1.natAbs ≤ n.natAbs := by
  have e := congrArg Int.natAbs (nrm_mul1 n m)
  rw [Int.natAbs_mul] at e
  have h2 := Nat.le_mul_of_pos_right (nrm n m).1.natAbs (Int.natAbs_pos.mpr (dvs_ne (n := n) h))
  omega
theorem nrm_le2 (n m : Int) (h : m ≠ 0) : (nrm n m).2.natAbs ≤ m.natAbs := by
  have e := congrArg Int.natAbs (nrm_mul2 n m)
  rw [Int.natAbs_mul] at e
  have h2 := Nat.le_mul_of_pos_right (nrm n m).2.natAbs (Int.natAbs_pos.mpr (dvs_ne (n := n) h))
  omega
theorem erase_map {α β : Type} (f : α → β) (xs : List α) (k : Nat) : (xs.map f).eraseIdx k = (xs.eraseIdx k).map f := by
  rw [List.eraseIdx_eq_take_drop_succ, List.eraseIdx_eq_take_drop_succ, List.map_append, List.map_take, List.map_drop]
/-- the first of the places that pass -/
theorem filter_range {n : Nat} {p : Nat → Bool} : (List.range n).filter p = [] ∨ ∃ k r, (List.range n).filter p = k :: r ∧ k < n ∧ p k = true := by
  cases e : (List.range n).filter p with
  | nil => exact .inl rfl
  | cons k r =>
    right
    have hm : k ∈ (List.range n).filter p := by rw [e]; exact List.mem_cons_self ..
    have := List.mem_filter.mp hm
    exact ⟨k, r, rfl, List.mem_range.mp this.1, this.2⟩
theorem ok_u_law_rank (T : Txt K mg) : FnOk P w K mg base CX0 4 T.f_u_law_rank T.fd_u_law_rank ["rows", "width"] (spD K R_lrank) := by
  refine ok_wp T.F_u_law_rank sc_u_law_rank ?_ (fun cdv A outer s H E hr => ⟨_, (pss_cons (ps_set (i := 2) sc_u_law_rank.nd rfl (by first | exact Or.inl rfl | exact Or.inr rfl) (pe_lc (own := [("row", 8)]) (by rfl) sc_u_law_rank.nd (kpi_seq (K := K) (pv 0)) (by refine blkOk_by ?_; rfl) (fun _ _ _ _ _ => pg_name (i := 8) sc_u_law_rank.nd rfl (by first | exact Or.inl rfl | exact Or.inr rfl)) (fun _ _ _ _ _ => pts_nil) (fun _ _ _ _ _ => (pe_lc (own := [("entry", 10)]) (by rfl) sc_u_law_rank.nd (kpi_seq (K := K) (pv 8)) (by refine blkOk_by ?_; rfl) (fun _ _ _ _ _ => pg_name (i := 10) sc_u_law_rank.nd rfl (by first | exact Or.inl rfl | exact Or.inr rfl)) (fun _ _ _ _ _ => pts_nil) (fun _ _ _ _ _ => (pe_tup (pa_cons (pv 10) (pa_cons pe_int pa_nil))))))))
      (pss_cons (ps_set (i := 3) sc_u_law_rank.nd rfl (by first | exact Or.inl rfl | exact Or.inr rfl) pe_int)
      (pss_cons (ps_for PassesOwn.never rfl (pi_range1 (by rfl) T.z_range (pa_cons (pv 1) pa_nil)) (pg_name (i := 4) sc_u_law_rank.nd rfl (by first | exact Or.inl rfl | exact Or.inr rfl))
      (pss_cons (ps_setLc (i := 5) (own := [("k", 11)]) (by rfl) sc_u_law_rank.nd rfl rfl (sw_true rfl rfl rfl rfl) (pi_range1 (by rfl) T.z_range (pa_cons (pe_callB (kx_len (K := K)) (by rfl) T.z_len (by decide +kernel) (pa_cons (pv 2) pa_nil)) pa_nil)) (by refine blkOk_by ?_; rfl) (fun _ _ _ _ _ => pg_name (i := 11) sc_u_law_rank.nd rfl (by first | exact Or.inl rfl | exact Or.inr rfl)) (fun _ _ _ _ _ => pts_one (pt_cmpR (kx_ne (K := K) hr.units) (pe_ix (kx_ix (K := K)) (pe_ix (kx_ix (K := K)) (pe_ix (kx_ix (K := K)) (pv 2) (pv 11) (fun _ _ => rfl)) (pv 4) (fun _ _ => rfl)) pe_int (fun _ _ => rfl)) pe_int (nomark _))) (fun _ _ _ _ _ => (pv 11)))
      (pss_one (ps_if (pt_cmpR op_gt (pe_callB (kx_len (K := K)) (by rfl) T.z_len (by decide +kernel) (pa_cons (pv 5) pa_nil)) pe_int (nomark _)) (pss_cons (ps_set (i := 3) sc_u_law_rank.nd rfl (by first | exact Or.inl rfl | exact Or.inr rfl) (pe_op op_add (pv 3) pe_int))
      (pss_cons (ps_set (i := 6) sc_u_law_rank.nd rfl (by first | exact Or.inl rfl | exact Or.inr rfl) (pe_bm PySem.F.plainAttrs_list PySem.F.slot_list_pop PySem.F.type_list_pop mt_popAt (pv 2) (pa_cons (pe_ix (kx_ix (K := K)) (pv 5) pe_int (fun _ _ => rfl)) pa_nil)))
      (pss_cons (ps_set (i := 7) sc_u_law_rank.nd rfl (by first | exact Or.inl rfl | exact Or.inr rfl) (pe_lst pa_nil))
      (pss_cons (ps_for PassesOwn.never rfl (kpi_seq (K := K) (pv 2)) (pg_name (i := 8) sc_u_law_rank.nd rfl (by first | exact Or.inl rfl | exact Or.inr rfl))
      (pss_cons (ps_set (i := 9) sc_u_law_rank.nd rfl (by first | exact Or.inl rfl | exact Or.inr rfl) (pe_call (ok_u_law_times T) (hr.mono (by decide)) (by rfl) T.g_u_law_times T.F_u_law_times.kp T.b_u_law_times .nil pass0 (pa_cons (pe_ix (kx_ix (K := K)) (pv 8) (pv 4) (fun _ _ => rfl)) (pa_cons (pe_call (ok_u_law_number T) (hr.mono (by decide)) (by rfl) T.g_u_law_number T.F_u_law_number.kp T.b_u_law_number .nil pass0 (pa_cons (pe_un un_neg (pe_ix (kx_ix (K := K)) (pe_ix (kx_ix (K := K)) (pv 6) (pv 4) (fun _ _ => rfl)) pe_int (fun _ _ => rfl))) (pa_cons (pe_ix (kx_ix (K := K)) (pe_ix (kx_ix (K := K)) (pv 6) (pv 4) (fun _ _ => rfl)) pe_int (fun _ _ => rfl)) pa_nil))) pa_nil))))
      (pss_one (ps_expr (pe_bm PySem.F.plainAttrs_list PySem.F.slot_list_append PySem.F.type_list_append mt_append (pv 7) (pa_cons (pe_lc (own := [("j", 12)]) (by rfl) sc_u_law_rank.nd (pi_range1 (by rfl) T.z_range (pa_cons (pv 1) pa_nil)) (by refine blkOk_by ?_; rfl) (fun _ _ _ _ _ => pg_name (i := 12) sc_u_law_rank.nd rfl (by first | exact Or.inl rfl | exact Or.inr rfl)) (fun _ _ _ _ _ => pts_nil) (fun _ _ _ _ _ => (pe_call (ok_u_law_plus T) (hr.mono (by decide)) (by rfl) T.g_u_law_plus T.F_u_law_plus.kp T.b_u_law_plus .nil pass0 (pa_cons (pe_ix (kx_ix (K := K)) (pv 8) (pv 12) (fun _ _ => rfl)) (pa_cons (pe_call (ok_u_law_times T) (hr.mono (by decide)) (by rfl) T.g_u_law_times T.F_u_law_times.kp T.b_u_law_times .nil pass0 (pa_cons (pv 9) (pa_cons (pe_ix (kx_ix (K := K)) (pv 6) (pv 12) (fun _ _ => rfl)) pa_nil))) pa_nil))))) pa_nil))))))
      (pss_one (ps_set (i := 2) sc_u_law_rank.nd rfl (by first | exact Or.inl rfl | exact Or.inr rfl) (pv 7))))))) pss_nil))))
      (pss_one (ps_ret (pv 3)))))), ?_⟩)
  all_goals (try simp only [nox_K, blk_K, cx_K])
  · rintro ds d ⟨rows, gd, w, B, t, rfl, _⟩; rfl
  · rintro ds d ⟨rows, gd, w, B, t, rfl, hg, hw, hn, hw1, hB0, hB, hBB, rk, rfl⟩
    have hBq : ∀ q ∈ rows.map rowF, ∀ j, (q j).natAbs ≤ B := fun q hq j => by
      obtain ⟨r, hr, rfl⟩ := List.mem_map.mp hq
      exact hB r hr j
    refine wp_seq (wp_asgN (EN.of (es := (rows.map fun r => (rowF r, r.map fun n => (n, (1 : Int)))).map fun x => fracD x.2) (en_lc1 (xs := rows) (g := gd) (f := fun r => fracD (r.map fun n => (n, (1 : Int)))) (ei_seq (ed_var rfl) rfl) (sz_small (by omega)) fun r hr => ?_) (by rw [List.map_map]; rfl)) ?_)
    · refine ED.of (EN.ed (en_lc1 (xs := r) (g := PyData.int) (f := fun n => numV (n, 1)) (ei_seq (ed_var rfl) (hg r)) (sz_small (by rw [hw r hr]; omega)) fun n hn => ?_)) (by rw [fracD, List.map_map]; rfl)
      show ED K _ _ (.tuple [.int n, .int 1])
      walk_at "ev"
    refine wp_seq (wp_asg (by walk_at "ev") ?_)
    refine wp_seq (wp_forG (xs := List.range w) (g := fun k => PyData.int (k : Nat))
      (fun c δ => ∃ (M : List ((Nat → Int) × List (Int × Int))) (rs : List (Nat → Int)) (P : List Nat) (a b e f g h i j k : SV), δ = [.val (.list (rows.map gd)), .val (.int (w : Nat)), .own (.l (M.map fun x => fracD x.2)), .val (.int (rs.length : Nat)), a, b, e, f, g, h, i, j, k] ∧ c ≤ w ∧ LE rows w c M rs P)
      (by repeat' first | walk_at "ev2" | (show (_ : Nat) ≤ _; omega) | fail) ⟨_, [], [], _, _, _, _, _, _, _, _, _, rfl, Nat.zero_le _, .start hw⟩ ?_ ?_)
    · rintro c c' δ ex ⟨M, rs, P, a, b, e, f, g, h, i, j, k, rfl, hc, le⟩
      have hcw : c < w := by
        have := (List.getElem?_eq_some_iff.mp ex).1
        rwa [List.length_range] at this
      have : c' = c := by
        rw [List.getElem?_range hcw] at ex
        exact (Option.some.inj ex).symm
      subst this
      have hMn : M.length ≤ rows.length := by have := le.cnt; omega
      have sz : ∀ x ∈ M, ∀ j, Lt 470 (x.2.getD j (0, 1)).1 ∧ Lt 470 (x.2.getD j (0, 1)).2 := fun x hx j => by
        obtain ⟨a1, a2⟩ := le.size hBq hx j
        have hp : 0 < M.length := List.length_pos_of_mem hx
        have hcnt := le.cnt
        exact ⟨Lt.pow (Nat.le_trans a1 (facB_mono hB0 (by omega))) hBB, Lt.pow (Nat.le_trans a2 (facB_mono hB0 (by omega))) hBB⟩
      have own : ∀ q, (hq : q < M.length) → atI (M.map fun x => fracD x.2) (q : Int) = some (fracD M[q].2) := fun q hq => atI_map (g := fun x : (Nat → Int) × List (Int × Int) => fracD x.2) (List.getElem?_eq_getElem hq)
      refine wp_seq (wp_asg (EN.ed (en_lcG (xs := List.range M.length) (g := fun k => PyData.int (k : Nat)) (p := fun q => !(((M.getD q (fun _ => 0, [])).2.getD c' (0, 1)).1 == 0)) (f := natD)
        (ei_rngN (ed_lenOwn rfl) (by rw [List.length_map]) (by omega)) (sz_small (by rw [List.length_range]; omega)) (fun q hq => ?_) fun q hq _ => ed_var rfl)) ?_)
      · have hq := List.mem_range.mp hq
        have eq : M.getD q (fun _ => 0, []) = M[q] := getD_of (List.getElem?_eq_getElem hq)
        rw [eq]
        have hl := (le.row _ (List.getElem_mem hq)).1
        refine et_test (ed_neD (ed_ix (ed_ix (ed_ixOwn rfl (ed_var rfl) (own q hq)) (ed_var rfl) (atI_frac (by omega))) ed_int rfl) ed_int (Shp.shaped (n := 0) shp_int) (Shp.shaped (n := 0) shp_int) rfl)
      rcases filter_range (n := M.length) (p := fun q => !(((M.getD q (fun _ => 0, [])).2.getD c' (0, 1)).1 == 0)) with fe | ⟨k0, r, fe, hk0, pk0⟩
      · have hz : ∀ x ∈ M, (x.2.getD c' (0, 1)).1 = 0 := fun x hx => by
          obtain ⟨q, hq, rfl⟩ := List.mem_iff_getElem.mp hx
          have := (List.filter_eq_nil_iff.mp fe) q (List.mem_range.mpr hq)
          rw [getD_of (x := M[q]) (List.getElem?_eq_getElem hq)] at this
          apply Classical.byContradiction
          intro z
          apply this
          rw [beq_eq_false_iff_ne.mpr z]; rfl
        rw [fe]
        refine wp_if (b := false) (ET.of (by walk_at "ev") (by rfl)) (fun h => nomatch h) (fun _ => wp_next ⟨M, rs, P, _, _, _, _, _, _, _, _, _, rfl, hcw, le.skip hz⟩)
      · have ek : M.getD k0 (fun _ => 0, []) = M[k0] := getD_of (List.getElem?_eq_getElem hk0)
        have hs0 : (M[k0].2.getD c' (0, 1)).1 ≠ 0 := fun z => by
          have pk0 : (!(((M.getD k0 (fun _ => 0, [])).2.getD c' (0, 1)).1 == 0)) = true := pk0
          rw [ek, z] at pk0
          cases pk0
        have eM : M = M.take k0 ++ M[k0] :: M.drop (k0 + 1) := by
          rw [← List.drop_eq_getElem_cons hk0, List.take_append_drop]
        have le2 := le
        rw [eM] at le2
        have stp := le2.step hcw hs0
        have eE : M.eraseIdx k0 = M.take k0 ++ M.drop (k0 + 1) := List.eraseIdx_eq_take_drop_succ ..
        rw [← eE] at stp
        have hM' : ∀ x ∈ M.eraseIdx k0, x ∈ M := fun x hx => List.mem_of_mem_eraseIdx hx
        have ms : M[k0] ∈ M := List.getElem_mem hk0
        have hsl := (le.row _ ms).1
        have ssz := sz _ ms
        have sred := (le.row _ ms).2.1
        have eK : M[k0]? = some M[k0] := List.getElem?_eq_getElem hk0
        generalize M[k0] = s0 at *
        have hlE : (M.eraseIdx k0).length ≤ rows.length := by
          have := List.length_eraseIdx_le M k0
          omega
        generalize hMM : M.eraseIdx k0 = M' at *
        rw [fe]
        refine wp_if (b := true) (ET.of (by walk_at "ev") (by
          show decide ((0 : Int) < (((k0 :: r).map natD).length : Nat)) = true
          rw [List.length_map, List.length_cons]
          exact decide_eq_true (by omega))) (fun _ => ?_) (fun h => nomatch h)
        refine wp_seq (wp_asg (by walk_at "ev") ?_)
        refine wp_seq (wp_popAt (i := 2) (j := 6) (n := (k0 : Nat)) (k := k0) (d := fracD s0.2) rfl (by decide) (ed_ix (ed_var rfl) ed_int (show itemD (.list ((k0 :: r).map natD)) 0 = some (natD k0) from atI_nat (j := 0) rfl)) rfl (by omega) (by rw [List.getElem?_map, eK]; rfl) ?_)
        rw [erase_map, hMM]
        refine wp_seq (wp_asgN (by walk_at "ev") ?_)
        have hinv : R_lnumber [.int (-(s0.2.getD c' (0, 1)).2), .int (s0.2.getD c' (0, 1)).1] (numV (nrm (-(s0.2.getD c' (0, 1)).2) (s0.2.getD c' (0, 1)).1)) := ⟨_, _, rfl, hs0, (ssz c').2.neg.mono, (ssz c').1.mono, rfl⟩
        have inv1 : Lt 470 (nrm (-(s0.2.getD c' (0, 1)).2) (s0.2.getD c' (0, 1)).1).1 := (ssz c').2.neg.le (nrm_le1 _ _ hs0)
        have inv2 : Lt 470 (nrm (-(s0.2.getD c' (0, 1)).2) (s0.2.getD c' (0, 1)).1).2 := (ssz c').1.le (nrm_le2 _ _ hs0)
        have invr : Red (nrm (-(s0.2.getD c' (0, 1)).2) (s0.2.getD c' (0, 1)).1) := red_nrm hs0
        have i1 := atI_frac (r := s0.2) (c := c') (by omega)
        refine wp_seq (wp_freeze 2 rfl (wp_forG (xs := M') (g := fun x => fracD x.2)
          (fun q δ => ∃ x8 x9 : SV, δ = [.val (.list (rows.map gd)), .val (.int (w : Nat)), .val (.list (M'.map fun x => fracD x.2)), .val (.int ((rs.length : Nat) + 1)), .val (.int (c' : Nat)), .val (.list ((k0 :: r).map natD)), .val (fracD s0.2), .own (.l ((M'.take q).map fun x => fracD (redR w c' s0.2 x.2))), x8, x9, i, j, k])
          (ei_seq (ed_var rfl) rfl) ⟨_, _, rfl⟩ ?_ ?_))
        · rintro q x δ ex ⟨x8, x9, rfl⟩
          have mx := hM' x (List.mem_of_getElem? ex)
          have xl := (le.row _ mx).1
          have xsz := sz _ mx
          have xr := (le.row _ mx).2.1
          have i2 := atI_frac (r := x.2) (c := c') (by omega)
          have ct : R_ltimes [numV (x.2.getD c' (0, 1)), numV (nrm (-(s0.2.getD c' (0, 1)).2) (s0.2.getD c' (0, 1)).1)] (numV (ntimes (x.2.getD c' (0, 1)) (nrm (-(s0.2.getD c' (0, 1)).2) (s0.2.getD c' (0, 1)).1))) := ⟨_, _, rfl, (xr c').ne, invr.ne, ⟨(xsz c').1.mono, (xsz c').2.mono, inv1.mono, inv2.mono⟩, ((xsz c').1.mul inv1).mono, ((xsz c').2.mul inv2).mono, rfl⟩
          refine wp_seq (wp_asg (d := numV (ntimes (x.2.getD c' (0, 1)) (nrm (-(s0.2.getD c' (0, 1)).2) (s0.2.getD c' (0, 1)).1))) (by repeat' first | walk_at "ev2" | exact hinv | exact ct | exact i1 | exact i2 | fail) ?_)
          have sh1 : Lt 940 (ntimes (x.2.getD c' (0, 1)) (nrm (-(s0.2.getD c' (0, 1)).2) (s0.2.getD c' (0, 1)).1)).1 := ((xsz c').1.mul inv1).le (nrm_le1 _ _ (Int.mul_ne_zero (xr c').ne invr.ne))
          have sh2 : Lt 940 (ntimes (x.2.getD c' (0, 1)) (nrm (-(s0.2.getD c' (0, 1)).2) (s0.2.getD c' (0, 1)).1)).2 := ((xsz c').2.mul inv2).le (nrm_le2 _ _ (Int.mul_ne_zero (xr c').ne invr.ne))
          have shr := red_times (xr c') invr
          generalize hsh : ntimes (x.2.getD c' (0, 1)) (nrm (-(s0.2.getD c' (0, 1)).2) (s0.2.getD c' (0, 1)).1) = sh at *
          have et : (M'.take (q + 1)).map (fun x => fracD (redR w c' s0.2 x.2)) = (M'.take q).map (fun x => fracD (redR w c' s0.2 x.2)) ++ [fracD (redR w c' s0.2 x.2)] := by
            rw [List.take_add_one, ex, List.map_append]; rfl
          have ered : fracD (redR w c' s0.2 x.2) = .list ((List.range w).map fun j => numV (nplus (x.2.getD j (0, 1)) (ntimes sh (s0.2.getD j (0, 1))))) := by
            rw [fracD, redR, List.map_map, hsh]; rfl
          refine wp_app (i := 7) (d := fracD (redR w c' s0.2 x.2)) rfl ?_ (by rw [List.length_map, List.length_take]; exact small1000 (by omega)) ⟨.val (fracD x.2), .val (numV sh), ?_⟩
          · rw [ered]
            refine EN.ed (en_lc1 (xs := List.range w) (g := fun k => PyData.int (k : Nat)) (f := fun j => numV (nplus (x.2.getD j (0, 1)) (ntimes sh (s0.2.getD j (0, 1))))) (by repeat' first | walk_at "ev2" | (show (_ : Nat) ≤ _; omega) | fail) (sz_small (by rw [List.length_range]; omega)) fun jj hj => ?_)
            have hj := List.mem_range.mp hj
            have i3 := atI_frac (r := x.2) (c := jj) (by omega)
            have i4 := atI_frac (r := s0.2) (c := jj) (by omega)
            have c1 : R_ltimes [numV sh, numV (s0.2.getD jj (0, 1))] (numV (ntimes sh (s0.2.getD jj (0, 1)))) := ⟨_, _, rfl, shr.ne, (sred jj).ne, ⟨sh1.mono, sh2.mono, (ssz jj).1.mono, (ssz jj).2.mono⟩, (sh1.mul (ssz jj).1).mono, (sh2.mul (ssz jj).2).mono, rfl⟩
            have pr := red_times shr (sred jj)
            have p1 : Lt 1410 (ntimes sh (s0.2.getD jj (0, 1))).1 := (sh1.mul (ssz jj).1).le (nrm_le1 _ _ (Int.mul_ne_zero shr.ne (sred jj).ne))
            have p2 : Lt 1410 (ntimes sh (s0.2.getD jj (0, 1))).2 := (sh2.mul (ssz jj).2).le (nrm_le2 _ _ (Int.mul_ne_zero shr.ne (sred jj).ne))
            have l1 : Lt 1880 ((x.2.getD jj (0, 1)).1 * (ntimes sh (s0.2.getD jj (0, 1))).2) := (xsz jj).1.mul p2
            have l2 : Lt 1880 ((ntimes sh (s0.2.getD jj (0, 1))).1 * (x.2.getD jj (0, 1)).2) := Lt.mono (a := 1410 + 470) (p1.mul (xsz jj).2)
            have l3 : Lt 1880 ((x.2.getD jj (0, 1)).2 * (ntimes sh (s0.2.getD jj (0, 1))).2) := (xsz jj).2.mul p2
            have c2 : R_lplus [numV (x.2.getD jj (0, 1)), numV (ntimes sh (s0.2.getD jj (0, 1)))] (numV (nplus (x.2.getD jj (0, 1)) (ntimes sh (s0.2.getD jj (0, 1))))) := ⟨_, _, rfl, (xr jj).ne, pr.ne, ⟨(xsz jj).1.mono, (xsz jj).2.mono, p1.mono, p2.mono⟩, (l1.add l2).mono, l3.mono, rfl⟩
            repeat' first | walk_at "ev2" | exact c1 | exact c2 | exact i3 | exact i4 | fail
          · rw [et]
            rfl
        · rintro δ ⟨x8, x9, rfl⟩
          rw [List.take_length]
          refine wp_move (i := 2) (j := 7) (by decide) rfl ⟨M'.map fun x => (x.1, redR w c' s0.2 x.2), s0.1 :: rs, P ++ [c'], .val (.int (c' : Nat)), .val (.list ((k0 :: r).map natD)), .val (fracD s0.2), .no, x8, x9, i, j, k, ?_, hcw, stp⟩
          rw [List.map_map]
          rfl
    · rintro δ ⟨M, rs, P, a, b, e, f, g, h, i, j, k, rfl, hc, le⟩
      rw [List.length_range] at le
      refine wp_ret (by walk_at "ev") ?_
      show PyData.int _ = .int _
      rw [le.done.uniq rk]

def tupI (x : List Int) : D := .tuple (x.map PyData.int)

/-! ### the rank by rests -/
def PP : Int := 2305843009213693951
theorem PP_pr : PP = ((Frm.MP : Nat) : Int) := by decide +kernel
def rjM (row leader : List Int) (c : Nat) : List Int := if row.getD c 0 = 0 then row else (row.zip leader).map fun x => (leader.getD c 0 * x.1 - row.getD c 0 * x.2) % PP
theorem rjM_len {row leader : List Int} {c w : Nat} (h1 : row.length = w) (h2 : leader.length = w) : (rjM row leader c).length = w := by
  unfold rjM
  split
  · exact h1
  · rw [List.length_map, List.length_zip, h1, h2, Nat.min_self]
theorem rjM_at {row leader : List Int} {c w : Nat} (h1 : row.length = w) (h2 : leader.length = w) (j : Nat) (hc : row.getD c 0 ≠ 0) : (rjM row leader c).getD j 0 = (leader.getD c 0 * row.getD j 0 - row.getD c 0 * leader.getD j 0) % PP := by
  unfold rjM
  rw [if_neg hc]
  by_cases hj : j < w
  · have hz : (row.zip leader)[j]? = some (row.getD j 0, leader.getD j 0) := by
      rw [List.getElem?_zip_eq_some, getD_of (List.getElem?_eq_getElem (show j < row.length by omega)), getD_of (List.getElem?_eq_getElem (show j < leader.length by omega))]
      exact ⟨List.getElem?_eq_getElem _, List.getElem?_eq_getElem _⟩
    exact getD_of (by rw [List.getElem?_map, hz]; rfl)
  · have e1 : row.getD j 0 = 0 := by rw [List.getD_eq_getElem?_getD, List.getElem?_eq_none (by omega)]; rfl
    have e2 : leader.getD j 0 = 0 := by rw [List.getD_eq_getElem?_getD, List.getElem?_eq_none (by omega)]; rfl
    rw [e1, e2, List.getD_eq_getElem?_getD, List.getElem?_eq_none (by rw [List.length_map, List.length_zip]; omega)]
    simp
open Lin Wed Elim Modp in
structure MI (R : List (List Int)) (w : Nat) (cs : List (List Int)) (r : Nat) (E : Nat → Nat → Int) (col : Nat → Nat) : Prop where
  cl : ∀ c ∈ cs, c.length = w ∧ (∀ x ∈ c, 0 ≤ x ∧ x < PP) ∧ ∃ e : Nat → Int, Sp (RowsA R) (castV e) ∧ ∀ j, PP ∣ e j - c.getD j 0
  z : ∀ c ∈ cs, ∀ i, i < r → c.getD (col i) 0 = 0
  s : ∀ i, i < r → Sp (RowsA R) (castV (E i))
  h0 : ∀ i, i < r → ¬ PP ∣ E i (col i)
  h1 : ∀ i k, i < k → k < r → PP ∣ E k (col i)
theorem PP_pos : (0 : Int) < PP := by decide
theorem PP_ne : PP ≠ 0 := by decide
theorem dvd_rest (a : Int) : PP ∣ a - a % PP := ⟨a / PP, by have := Int.mul_ediv_add_emod a PP; omega⟩
open Lin Wed Elim Modp in
theorem MI.lo {R : List (List Int)} {w : Nat} {cs : List (List Int)} {r : Nat} {E : Nat → Nat → Int} {col : Nat → Nat} (h : MI R w cs r E col) : Lo (RowsA R) r :=
  ⟨fun i => castV (E i), h.s, ind_mod Frm.mp_prime (fun i hi => by rw [← PP_pr]; exact h.h0 i hi) (fun i k a b => by rw [← PP_pr]; exact h.h1 i k a b)⟩
open Lin Wed Elim Modp in
theorem MI.start {R : List (List Int)} {w : Nat} (hw : ∀ r ∈ R, r.length = w) : MI R w (R.map fun r => r.map fun n => n % PP) 0 (fun _ _ => 0) (fun _ => 0) := by
  refine ⟨fun c hc => ?_, fun c hc i hi => absurd hi (Nat.not_lt_zero _), fun i hi => absurd hi (Nat.not_lt_zero _), fun i hi => absurd hi (Nat.not_lt_zero _), fun i k _ hk => absurd hk (Nat.not_lt_zero _)⟩
  obtain ⟨r, hr, rfl⟩ := List.mem_map.mp hc
  refine ⟨by rw [List.length_map]; exact hw r hr, fun x hx => ?_, rowF r, .mem ⟨rowF r, List.mem_map.mpr ⟨r, hr, rfl⟩, rfl⟩, fun j => ?_⟩
  · obtain ⟨n, _, rfl⟩ := List.mem_map.mp hx
    exact ⟨Int.emod_nonneg _ PP_ne, Int.emod_lt_of_pos _ PP_pos⟩
  · show PP ∣ r.getD j 0 - (r.map fun n => n % PP).getD j 0
    by_cases hj : j < r.length
    · rw [getD_of (List.getElem?_eq_getElem hj), getD_of (x := r[j] % PP) (by rw [List.getElem?_map, List.getElem?_eq_getElem hj]; rfl)]
      exact dvd_rest _
    · rw [List.getD_eq_getElem?_getD, List.getElem?_eq_none (by omega), List.getD_eq_getElem?_getD, List.getElem?_eq_none (by rw [List.length_map]; omega)]
      exact ⟨0, rfl⟩
theorem MI.skip {R : List (List Int)} {w : Nat} {cs : List (List Int)} {l : List Int} {r : Nat} {E : Nat → Nat → Int} {col : Nat → Nat} (h : MI R w (cs ++ [l]) r E col) : MI R w cs r E col :=
  ⟨fun c hc => h.cl c (List.mem_append_left _ hc), fun c hc => h.z c (List.mem_append_left _ hc), h.s, h.h0, h.h1⟩
open Lin Wed Elim Modp in
theorem MI.next {R : List (List Int)} {w : Nat} {cs : List (List Int)} {l : List Int} {r k : Nat} {E : Nat → Nat → Int} {col : Nat → Nat} (h : MI R w (cs ++ [l]) r E col) (hk : l.getD k 0 ≠ 0) :
    ∃ E' col', MI R w (cs.map fun c => rjM c l k) (r + 1) E' col' := by
  have hlm : l ∈ cs ++ [l] := List.mem_append_right _ (List.mem_singleton.mpr rfl)
  obtain ⟨ll, lb, e, es, el⟩ := h.cl l hlm
  have lk : 0 ≤ l.getD k 0 ∧ l.getD k 0 < PP := by
    by_cases hkl : k < l.length
    · rw [getD_of (List.getElem?_eq_getElem hkl)]; exact lb _ (List.getElem_mem hkl)
    · rw [List.getD_eq_getElem?_getD, List.getElem?_eq_none (by omega)]; exact ⟨by decide, by decide⟩
  refine ⟨fun i => if i = r then e else E i, fun i => if i = r then k else col i, ⟨fun c' hc' => ?_, fun c' hc' i hi => ?_, fun i hi => ?_, fun i hi => ?_, fun i j hij hj => ?_⟩⟩
  · obtain ⟨c, hc, rfl⟩ := List.mem_map.mp hc'
    obtain ⟨cl, cb, f, fs, fl⟩ := h.cl c (List.mem_append_left _ hc)
    refine ⟨rjM_len cl ll, fun x hx => ?_, ?_⟩
    · unfold rjM at hx
      split at hx
      · exact cb x hx
      · obtain ⟨y, _, rfl⟩ := List.mem_map.mp hx
        exact ⟨Int.emod_nonneg _ PP_ne, Int.emod_lt_of_pos _ PP_pos⟩
    · by_cases hz : c.getD k 0 = 0
      · refine ⟨f, fs, fun j => ?_⟩
        have : rjM c l k = c := by unfold rjM; rw [if_pos hz]
        rw [this]; exact fl j
      · refine ⟨fun j => l.getD k 0 * f j - c.getD k 0 * e j, ?_, fun j => ?_⟩
        · refine Sp.of (sp_sub (.smul ((l.getD k 0 : Int) : Rat) fs) (.smul ((c.getD k 0 : Int) : Rat) es)) fun j => ?_
          show _ = (((l.getD k 0 * f j - c.getD k 0 * e j : Int)) : Rat)
          rw [Rat.intCast_sub, Rat.intCast_mul, Rat.intCast_mul]; rfl
        · rw [rjM_at cl ll j hz]
          have d1 := dvd_rest (l.getD k 0 * c.getD j 0 - c.getD k 0 * l.getD j 0)
          have d2 := Int.dvd_trans (fl j) (Int.dvd_mul_left (l.getD k 0) _)
          have d3 := Int.dvd_trans (el j) (Int.dvd_mul_left (c.getD k 0) _)
          have e1 : l.getD k 0 * f j - c.getD k 0 * e j - (l.getD k 0 * c.getD j 0 - c.getD k 0 * l.getD j 0) % PP = (l.getD k 0 * (f j - c.getD j 0) - c.getD k 0 * (e j - l.getD j 0)) + ((l.getD k 0 * c.getD j 0 - c.getD k 0 * l.getD j 0) - (l.getD k 0 * c.getD j 0 - c.getD k 0 * l.getD j 0) % PP) := by
            rw [Int.mul_sub, Int.mul_sub]; omega
          rw [e1]
          exact Int.dvd_add (Int.dvd_sub d2 d3) d1
  · obtain ⟨c, hc, rfl⟩ := List.mem_map.mp hc'
    obtain ⟨cl, _, _⟩ := h.cl c (List.mem_append_left _ hc)
    by_cases hz : c.getD k 0 = 0
    · have : rjM c l k = c := by unfold rjM; rw [if_pos hz]
      rw [this]
      split
      · exact hz
      · exact h.z c (List.mem_append_left _ hc) i (by omega)
    · rw [rjM_at cl ll _ hz]
      split
      · rw [Int.mul_comm, Int.sub_self]; rfl
      · rw [h.z c (List.mem_append_left _ hc) i (by omega), h.z l hlm i (by omega)]
        simp
  · split
    · exact es
    · exact h.s i (by omega)
  · split
    · rename_i hir
      intro hd
      have h2 := Int.dvd_sub hd (el k)
      have h3 : e k - (e k - l.getD k 0) = l.getD k 0 := by omega
      rw [h3] at h2
      have := Int.le_of_dvd (by omega) h2
      omega
    · exact h.h0 i (by omega)
  · rw [if_neg (show i ≠ r by omega)]
    split
    · have h2 := el (col i)
      rw [h.z l hlm i (by omega), Int.sub_zero] at h2
      exact h2
    · exact h.h1 i j hij (by omega)
/-! the program -/
def Pre_first (ds : List D) : Prop := ∃ r : List Int, ds = [listI r]
def Post_first (ds : List D) (d : D) : Prop := ∀ r : List Int, ds = [listI r] → (d = .none ∧ ∀ x ∈ r, x = 0) ∨ ∃ (k : Nat) (x : Int), d = .int (k : Nat) ∧ r[k]? = some x ∧ x ≠ 0
theorem map_int_inj : ∀ {xs ys : List Int}, xs.map PyData.int = ys.map PyData.int → xs = ys
  | [], [], _ => rfl
  | [], _ :: _, h => by cases h
  | _ :: _, [], h => by cases h
  | x :: xs, y :: ys, h => by
    rw [List.map_cons, List.map_cons] at h
    injection h with h1 h2
    injection h1 with h1
    rw [show x = y from h1, map_int_inj h2]
theorem listI_inj {a b : List Int} (h : listI a = listI b) : a = b := by
  injection h with h
  exact map_int_inj h
theorem ok_first_place (T : Txt K mg) : FnOk P w K mg base CX0 1 T.f_first_place T.fd_first_place ["row"] (spP K Pre_first Post_first) := by
  refine ok_wpP T.F_first_place sc_first_place ?_ (fun cdv A outer s H E hr => ⟨_, (pss_cons (ps_for PassesOwn.never rfl (kpi_enum (K := K) (by rfl) T.z_enumerate (pa_cons (pv 0) pa_nil)) (kpg_tup (K := K) (n := 2) rfl (pgs_cons (pg_name (i := 1) sc_first_place.nd rfl (by first | exact Or.inl rfl | exact Or.inr rfl)) (pgs_cons (pg_name (i := 2) sc_first_place.nd rfl (by first | exact Or.inl rfl | exact Or.inr rfl)) pgs_nil)))
      (pss_one (ps_if (pt_cmpR (kx_ne (K := K) hr.units) (pv 2) pe_int (nomark _)) (pss_one (ps_ret (pv 1))) pss_nil)))
      (pss_one (ps_ret pe_non))), ?_⟩)
  all_goals (try simp only [nox_K, blk_K, cx_K])
  · rintro ds ⟨r, rfl⟩; rfl
  · rintro ds ⟨r, rfl⟩
    refine wp_seq (wp_forE (xs := r) (g := PyData.int) (fun k δ => ∃ (a b : SV), δ = [.val (listI r), a, b] ∧ ∀ x ∈ r.take k, x = 0) (ei_enum (ed_var rfl)) ⟨_, _, rfl, fun x hx => (by rw [List.take_zero] at hx; cases hx)⟩ ?_ ?_)
    · rintro k x δ ex ⟨a, b, rfl, inv⟩
      refine wp_if (b := !(x == 0)) (by walk_at "ev") (fun h => ?_) (fun h => ?_)
      · refine wp_ret (d := .int (k : Nat)) (by walk_at "ev") fun r' hr' => ?_
        have : r = r' := listI_inj (by injection hr')
        subst this
        refine .inr ⟨k, x, rfl, ex, fun z => ?_⟩
        rw [z] at h
        cases h
      · refine wp_next ⟨_, _, rfl, fun y hy => ?_⟩
        rw [List.take_add_one, ex] at hy
        rcases List.mem_append.mp hy with q | q
        · exact inv y q
        · rw [List.mem_singleton.mp q]
          cases e : (x == 0) with
          | true => exact eq_of_beq e
          | false => rw [e] at h; cases h
    · rintro δ ⟨a, b, rfl, inv⟩
      rw [List.take_length] at inv
      refine wp_ret ed_non fun r' hr' => ?_
      have : r = r' := listI_inj (by injection hr')
      subst this
      exact .inl ⟨rfl, inv⟩
def R_rj (ds : List D) (d : D) : Prop := ∃ (row leader : List Int) (c w : Nat), ds = [listI row, listI leader, .int (c : Nat)] ∧ row.length = w ∧ leader.length = w ∧ c < w ∧ w ≤ 1000 ∧ (∀ x ∈ row, 0 ≤ x ∧ x < PP) ∧ (∀ x ∈ leader, 0 ≤ x ∧ x < PP) ∧ d = listI (rjM row leader c)
theorem ok_rests_joined (T : Txt K mg) : FnOk P w K mg base CX0 1 T.f_rests_joined T.fd_rests_joined ["row", "leader", "column"] (spD K R_rj) := by
  refine ok_wp T.F_rests_joined sc_rests_joined ?_ (fun cdv A outer s H E hr => ⟨_, (pss_cons (ps_set (i := 3) sc_rests_joined.nd rfl (by first | exact Or.inl rfl | exact Or.inr rfl) (pe_ix (kx_ix (K := K)) (pv 0) (pv 2) (fun _ _ => rfl)))
      (pss_cons (ps_if (pt_cmpR (kx_eq (K := K) hr.units) (pv 3) pe_int (nomark _)) (pss_one (ps_ret (pv 0))) pss_nil)
      (pss_cons (ps_set (i := 4) sc_rests_joined.nd rfl (by first | exact Or.inl rfl | exact Or.inr rfl) (pe_ix (kx_ix (K := K)) (pv 1) (pv 2) (fun _ _ => rfl)))
      (pss_one (ps_ret (pe_lc (own := [("a", 5), ("b", 6)]) (by rfl) sc_rests_joined.nd (kpi_zip (K := K) (by rfl) T.z_zip (pa_cons (pv 0) (pa_cons (pv 1) pa_nil))) (by refine blkOk_by ?_; rfl) (fun _ _ _ _ _ => kpg_tup (K := K) (n := 2) rfl (pgs_cons (pg_name (i := 5) sc_rests_joined.nd rfl (by first | exact Or.inl rfl | exact Or.inr rfl)) (pgs_cons (pg_name (i := 6) sc_rests_joined.nd rfl (by first | exact Or.inl rfl | exact Or.inr rfl)) pgs_nil))) (fun _ _ _ _ _ => pts_nil) (fun _ _ _ _ _ => (pe_op op_mod (pe_op op_sub (pe_op op_mulX (pv 4) (pv 5)) (pe_op op_mulX (pv 3) (pv 6))) (pe_glob (v := .int 2305843009213693951) rfl T.c_PRIME ⟨_, rfl⟩))))))))), ?_⟩)
  all_goals (try simp only [nox_K, blk_K, cx_K])
  · rintro ds d ⟨row, leader, c, w, rfl, _⟩; rfl
  · rintro ds d ⟨row, leader, c, w, rfl, h1, h2, hc, hw, b1, b2, rfl⟩
    have a1 : itemD (listI row) (c : Nat) = some (.int (row.getD c 0)) := atI_int (by omega)
    have a2 : itemD (listI leader) (c : Nat) = some (.int (leader.getD c 0)) := atI_int (by omega)
    have lt : ∀ x : Int, 0 ≤ x ∧ x < PP → Lt 61 x := fun x hx => by
      have : PP < 2 ^ 61 := by decide
      have h2 : ((2 : Int) ^ 61) = ((2 ^ 61 : Nat) : Int) := by decide
      unfold Lt
      omega
    have lc := lt _ (b2 _ (by rw [getD_of (List.getElem?_eq_getElem (show c < leader.length by omega))]; exact List.getElem_mem _) : 0 ≤ leader.getD c 0 ∧ leader.getD c 0 < PP)
    have rc := lt _ (b1 _ (by rw [getD_of (List.getElem?_eq_getElem (show c < row.length by omega))]; exact List.getElem_mem _) : 0 ≤ row.getD c 0 ∧ row.getD c 0 < PP)
    refine wp_seq (wp_asg (d := .int (row.getD c 0)) (by repeat' first | walk_at "ev2" | exact a1 | fail) ?_)
    refine wp_seq (wp_if (b := (row.getD c 0 == 0)) (by walk_at "ev") (fun h => ?_) (fun h => wp_next ?_))
    · refine wp_ret (ed_var rfl) ?_
      show listI row = listI _
      rw [rjM, if_pos (eq_of_beq h)]
    · refine wp_seq (wp_asg (d := .int (leader.getD c 0)) (by repeat' first | walk_at "ev2" | exact a2 | fail) ?_)
      have hz : row.getD c 0 ≠ 0 := fun z => by rw [z] at h; cases h
      refine wp_ret (d := listI (rjM row leader c)) (ED.of (EN.ed (en_lc2 (xs := row.zip leader) (g1 := fun x => PyData.int x.1) (g2 := fun x => PyData.int x.2) (f := fun x => PyData.int ((leader.getD c 0 * x.1 - row.getD c 0 * x.2) % PP)) (by decide) (EI.of (ei_zip (ed_var rfl) (ed_var rfl)) (zipD_ints _ _)) (sz_small (by rw [List.length_zip]; omega)) fun x hx => ?_)) (by rw [rjM, if_neg hz]; unfold listI; rw [List.map_map]; rfl)) rfl
      have m := List.of_mem_zip (a := x.1) (b := x.2) hx
      have l1 := lt _ (b1 _ m.1)
      have l2 := lt _ (b2 _ m.2)
      repeat' first | walk_at "ev2" | exact mulX lc l1 | exact mulX rc l2 | (show (0 : Int) < _; decide) | fail
theorem cut_last {ds : List D} {x : D} : cutD (ds ++ [x]) none (some (-1)) = ds := by
  unfold cutD HT.sIx
  simp
  have : (-1 + ((ds.length : Int) + 1)).toNat = ds.length := by omega
  rw [this]; simp
theorem at_last {ds : List D} {x : D} : itemD (.list (ds ++ [x])) (-1) = some x := by
  show atI (ds ++ [x]) (-1) = _
  unfold atI ixN
  simp
  rw [if_pos (by omega)]
  have : (-1 + ((ds.length : Int) + 1)).toNat = ds.length := by omega
  rw [this]
  simp
def Pre_ror (ds : List D) : Prop := ∃ (R : List (List Int)) (w : Nat), ds = [.list (R.map tupI)] ∧ (∀ r ∈ R, r.length = w) ∧ R.length ≤ 1000 ∧ w ≤ 1000
def Post_ror (ds : List D) (d : D) : Prop := ∀ (R : List (List Int)), ds = [.list (R.map tupI)] → ∃ r : Nat, d = .int (r : Nat) ∧ Lin.Lo (RowsA R) r

theorem EP.mono' {K : PySem.W.Frag} {δ : List SV} {te : TE} {P P' : D → Prop} (h : EP K te δ P) (m : ∀ d, P d → P' d) : EP K te δ P' := fun B0 H0 B H σ Q S q => h B0 H0 B H σ Q S fun v B' H' d s a p => q v B' H' d s a (m d p)
theorem ep_lenIx {K : PySem.W.Frag} {δ : List SV} {te : TE} {n : Nat} (h : EP K te δ (fun d => ∃ x kvs y, d = .tuple [x, .dict kvs, y] ∧ kvs.length = n)) : EP K (tCB rLenDQ (tCons (tOp (rIx K) te (tC (.int 1))) tNil)) δ (fun d => d = .int (n : Nat)) := fun B0 H0 B H σ Q S q =>
  h B0 H0 B H σ _ S fun v B1 H1 d s1 a ⟨x, kvs, y, e, hn⟩ => by
    subst e
    cases a with
    | tup hs hA =>
      cases hA with
      | cons h1 h2 =>
        cases h2 with
        | cons h2 h3 =>
          refine .inr (.inl ⟨_, _, 1, _, rfl, rfl, sqT_up s1.bh hs, (show atI _ ((1 : Nat) : Int) = some _ from atI_nat rfl), ?_⟩)
          cases h2 with
          | dct hd hk => exact ⟨_, _, rfl, rd_up s1.bh hd, q _ B1 H1 _ s1 (by rw [hk.len, hn]; exact .int _) rfl⟩
theorem tupI_inj : ∀ {R R' : List (List Int)}, R.map tupI = R'.map tupI → R = R'
  | [], [], _ => rfl
  | [], _ :: _, h => by cases h
  | _ :: _, [], h => by cases h
  | x :: xs, y :: ys, h => by
    rw [List.map_cons, List.map_cons] at h
    injection h with h1 h2
    injection h1 with h1
    rw [map_int_inj h1, tupI_inj h2]
theorem ok_rank_of_rests (T : Txt K mg) : FnOk P w K mg base CX0 2 T.f_rank_of_rests T.fd_rank_of_rests ["rows"] (spP K Pre_ror Post_ror) := by
  refine ok_wpP T.F_rank_of_rests sc_rank_of_rests ?_ (fun cdv A outer s H E hr => ⟨_, (pss_cons (ps_setLc (i := 1) (own := [("row", 5)]) (by rfl) sc_rank_of_rests.nd rfl rfl (sw_true rfl rfl rfl rfl) (kpi_seq (K := K) (pv 0)) (by refine blkOk_by ?_; rfl) (fun _ _ _ _ _ => pg_name (i := 5) sc_rank_of_rests.nd rfl (by first | exact Or.inl rfl | exact Or.inr rfl)) (fun _ _ _ _ _ => pts_nil) (fun _ _ _ _ _ => (pe_lc (own := [("n", 6)]) (by rfl) sc_rank_of_rests.nd (kpi_seq (K := K) (pv 5)) (by refine blkOk_by ?_; rfl) (fun _ _ _ _ _ => pg_name (i := 6) sc_rank_of_rests.nd rfl (by first | exact Or.inl rfl | exact Or.inr rfl)) (fun _ _ _ _ _ => pts_nil) (fun _ _ _ _ _ => (pe_op op_mod (pv 6) (pe_glob (v := .int 2305843009213693951) rfl T.c_PRIME ⟨_, rfl⟩))))))
      (pss_cons (ps_set (i := 2) sc_rank_of_rests.nd rfl (by first | exact Or.inl rfl | exact Or.inr rfl) pe_int)
      (pss_cons (ps_while PassesOwn.never (kpt_truth (K := K) (pv 1) (by intro _; rfl)) (pss_cons (ps_set (i := 3) sc_rank_of_rests.nd rfl (by first | exact Or.inl rfl | exact Or.inr rfl) (pe_ix (kx_ix (K := K)) (pv 1) (pe_un un_neg pe_int) (fun _ _ => rfl)))
      (pss_cons (ps_set (i := 1) sc_rank_of_rests.nd rfl (by first | exact Or.inl rfl | exact Or.inr rfl) (pe_slice (kx_sl (K := K)) (pv 1) po_none (po_some (pe_un un_neg pe_int))))
      (pss_cons (ps_set (i := 4) sc_rank_of_rests.nd rfl (by first | exact Or.inl rfl | exact Or.inr rfl) (pe_call (ok_first_place T) (hr.mono (by decide)) (by rfl) T.g_first_place T.F_first_place.kp T.b_first_place .nil pass0 (pa_cons (pv 3) pa_nil)))
      (pss_one (ps_if (pt_cmpR op_notNQ (pv 4) pe_non (nomark _)) (pss_cons (ps_aug (i := 2) sc_rank_of_rests.nd rfl (by first | exact Or.inl rfl | exact Or.inr rfl) pe_int ip_add)
      (pss_one (ps_setLc (i := 1) (own := [("row", 5)]) (by rfl) sc_rank_of_rests.nd rfl rfl (sw_true rfl rfl rfl rfl) (kpi_seq (K := K) (pv 1)) (by refine blkOk_by ?_; rfl) (fun _ _ _ _ _ => pg_name (i := 5) sc_rank_of_rests.nd rfl (by first | exact Or.inl rfl | exact Or.inr rfl)) (fun _ _ _ _ _ => pts_nil) (fun _ _ _ _ _ => (pe_call (ok_rests_joined T) (hr.mono (by decide)) (by rfl) T.g_rests_joined T.F_rests_joined.kp T.b_rests_joined .nil pass0 (pa_cons (pv 5) (pa_cons (pv 3) (pa_cons (pv 4) pa_nil)))))))) pss_nil))))))
      (pss_one (ps_ret (pv 2)))))), ?_⟩)
  all_goals (try simp only [nox_K, blk_K, cx_K])
  · rintro ds ⟨R, w, rfl, _⟩; rfl
  · rintro ds ⟨R, w, rfl, hw, hl, hw2⟩
    have st := MI.start hw
    have sl : (R.map fun r => r.map fun n => n % PP).length ≤ 1000 := by rw [List.length_map]; exact hl
    refine wp_seq (wp_asg (d := .list ((R.map fun r => r.map fun n => n % PP).map listI)) (ED.of (EN.ed (en_lc1 (xs := R) (g := tupI) (f := fun r => listI (r.map fun n => n % PP)) (ei_seq (ed_var rfl) rfl) (sz_small (by omega)) fun r hr => ?_)) (by rw [List.map_map]; rfl)) ?_)
    · exact ED.of (EN.ed (en_lc1 (xs := r) (g := PyData.int) (f := fun n => PyData.int (n % PP)) (ei_seq (ed_var rfl) rfl) (sz_small (by rw [hw r hr]; omega)) fun n hn => by repeat' first | walk_at "ev2" | (show (0 : Int) < _; decide) | fail)) (by unfold listI; rw [List.map_map]; rfl)
    refine wp_seq (wp_asg (d := .int 0) (by walk_at "ev") ?_)
    generalize (R.map fun r => r.map fun n => n % PP) = cs0 at *
    refine wp_seq (wp_while (n := cs0.length) (fun m δ => ∃ (cs : List (List Int)) (r : Nat) (E : Nat → Nat → Int) (col : Nat → Nat) (a b c e : SV), δ = [.val (.list (R.map tupI)), .val (.list (cs.map listI)), .val (.int (r : Nat)), a, b, c, e] ∧ cs.length = m ∧ cs.length ≤ 1000 ∧ MI R w cs r E col)
      ⟨cs0, 0, _, _, _, _, _, _, rfl, rfl, sl, st⟩ ?_)
    rintro m δ ⟨cs, r, E0, col, a, b, c, e, rfl, hm, hcl, mi⟩
    refine ⟨!cs.isEmpty, ET.of (by repeat' first | walk_at "ev2" | fail) (by cases cs <;> rfl), fun h => ?_, fun h => ?_⟩
    · obtain ⟨cs', l, rfl⟩ : ∃ cs' l, cs = cs' ++ [l] := by
        rcases List.eq_nil_or_concat cs with e | ⟨q, z, e⟩
        · rw [e] at h; cases h
        · exact ⟨q, z, by rw [e, List.concat_eq_append]⟩
      rw [List.length_append] at hm hcl
      simp only [List.length_cons, List.length_nil] at hm hcl
      obtain ⟨ll, lb, _⟩ := mi.cl l (List.mem_append_right _ (List.mem_singleton.mpr rfl))
      rw [List.map_append]
      refine wp_seq (wp_asg (d := listI l) (ed_ix (ed_var rfl) (ED.of (d := .int (-1)) (by walk_at "ev") rfl) at_last) ?_)
      refine wp_seq (wp_asg (d := .list (cs'.map listI)) (ED.of (EN.ed (en_slice (ed_var rfl) eo_none (eo_some (i := -1) (ED.of (d := .int (-1)) (by walk_at "ev") rfl)))) (by rw [show List.map listI [l] = [listI l] from rfl, cut_last])) ?_)
      refine wp_seq (wp_asgP (ep_call (ds := [listI l]) (by walk_at "ev") ⟨l, rfl⟩) fun d hd => ?_)
      rcases hd l rfl with ⟨rfl, hz⟩ | ⟨k, x, rfl, hx, hx0⟩
      · refine wp_if (b := false) (ET.of (by repeat' first | walk_at "ev2" | fail) (by rfl)) (fun h => nomatch h) (fun _ => wp_next ?_)
        exact ⟨cs'.length, by omega, cs', r, E0, col, _, _, _, _, rfl, rfl, by omega, mi.skip⟩
      · refine wp_if (b := true) (ET.of (by repeat' first | walk_at "ev2" | fail) (by rfl)) (fun _ => ?_) (fun h => nomatch h)
        have hkl : k < w := by
          have := (List.getElem?_eq_some_iff.mp hx).1
          omega
        have hk : l.getD k 0 ≠ 0 := by rw [getD_of hx]; exact hx0
        obtain ⟨E', col', mi'⟩ := mi.next hk
        refine wp_seq (wp_aug (f := fun a b => a + b) (b := 1) rfl ed_int ?_)
        refine wp_asg (d := .list ((cs'.map fun c => rjM c l k).map listI)) (ED.of (EN.ed (en_lc1 (xs := cs') (g := listI) (f := fun c => listI (rjM c l k)) (ei_seq (ed_var rfl) rfl) (sz_small (by omega)) fun c hc => ?_)) (by rw [List.map_map]; rfl)) ?_
        · obtain ⟨cl, cb, _⟩ := mi.cl c (List.mem_append_left _ hc)
          have rj : R_rj [listI c, listI l, .int (k : Nat)] (listI (rjM c l k)) := ⟨c, l, k, w, rfl, cl, ll, hkl, hw2, cb, lb, rfl⟩
          repeat' first | walk_at "ev2" | exact rj | fail
        · exact ⟨cs'.length, by omega, _, r + 1, E', col', _, _, _, _, rfl, by rw [List.length_map], by rw [List.length_map]; omega, mi'⟩
    · refine wp_ret (ed_var rfl) fun R' hR => ?_
      have : R = R' := tupI_inj (by injection hR with h _; injection h)
      subst this
      exact ⟨r, rfl, mi.lo⟩
/-- the rank of some rows -/
def R_rank (ds : List D) (d : D) : Prop := ∃ (R : List (List Int)) (w B t : Nat), ds = [.list (R.map tupI)] ∧ (∀ r ∈ R, r.length = w) ∧ R.length ≤ 1000 ∧ w ≤ 1000 ∧ 0 < B ∧ (∀ r ∈ R, ∀ j, (r.getD j 0).natAbs ≤ B) ∧ Wed.fac (R.length + 1) * B ^ (R.length + 1) < 2 ^ 3900 ∧ Elim.Rk (RowsA R) t ∧ d = .int (t : Nat)
open Lin Wed Elim in
theorem rk_width {R : List (List Int)} {w t : Nat} (hw : ∀ r ∈ R, r.length = w) (h : Rk (RowsA R) t) : t ≤ w := h.1.le (Hi.width fun a ⟨f, hf, e⟩ j hj => by
  obtain ⟨r, hr, rfl⟩ := List.mem_map.mp hf
  rw [e]
  show ((r.getD j 0 : Int) : Rat) = 0
  rw [List.getD_eq_getElem?_getD, List.getElem?_eq_none (by rw [hw r hr]; omega)]
  rfl)
open Lin Wed Elim in
theorem rk_rows {R : List (List Int)} {t : Nat} (h : Rk (RowsA R) t) : t ≤ R.length := by
  have := h.1.le (hi_rows (R.map rowF))
  rwa [List.length_map] at this
open Lin Wed Elim in
theorem rk_nil {t : Nat} (h : Rk (RowsA []) t) : t = 0 := Nat.le_zero.mp (rk_rows h)
theorem ok_rank (T : Txt K mg) : FnOk P w K mg base CX0 4 T.f_rank T.fd_rank ["rows"] (spD K R_rank) := by
  refine ok_wp T.F_rank sc_rank ?_ (fun cdv A outer s H E hr => ⟨_, (pss_cons (ps_if (pt_not (kpt_truth (K := K) (pv 0) (by intro _; rfl))) (pss_one (ps_ret pe_int)) pss_nil)
      (pss_cons (ps_set (i := 1) sc_rank.nd rfl (by first | exact Or.inl rfl | exact Or.inr rfl) (pe_callB (kx_len (K := K)) (by rfl) T.z_len (by decide +kernel) (pa_cons (pe_ix (kx_ix (K := K)) (pv 0) pe_int (fun _ _ => rfl)) pa_nil)))
      (pss_cons (ps_set (i := 2) sc_rank.nd rfl (by first | exact Or.inl rfl | exact Or.inr rfl) (pe_call (ok_rank_of_rests T) (hr.mono (by decide)) (by rfl) T.g_rank_of_rests T.F_rank_of_rests.kp T.b_rank_of_rests .nil pass0 (pa_cons (pv 0) pa_nil)))
      (pss_cons (ps_if (pt_cmpR (kx_eq (K := K) hr.units) (pv 2) (pe_callB (cr_min2 rfl) (by rfl) T.z_min (by decide +kernel) (pa_cons (pe_callB (kx_len (K := K)) (by rfl) T.z_len (by decide +kernel) (pa_cons (pv 0) pa_nil)) (pa_cons (pv 1) pa_nil))) (nomark _)) (pss_one (ps_ret (pv 2))) pss_nil)
      (pss_one (ps_ret (pe_callB cr_lenDQ (by rfl) T.z_len (by decide +kernel) (pa_cons (pe_ix (kx_ix (K := K)) (pe_call (ok_red T) (hr.mono (by decide)) (by rfl) T.g_reduced T.F_reduced.kp T.b_reduced .nil pass0 (pa_cons (pv 0) (pa_cons (pv 1) pa_nil))) pe_int (fun _ _ => rfl)) pa_nil)))))))), ?_⟩)
  all_goals (try simp only [nox_K, blk_K, cx_K])
  · rintro ds d ⟨R, w, B, t, rfl, _⟩; rfl
  · rintro ds d ⟨R, w, B, t, rfl, hw, hl, hw2, hB, hb, hsz, rk, rfl⟩
    refine wp_seq (wp_if (b := R.isEmpty) (ET.of (by repeat' first | walk_at "ev2" | fail) (by cases R <;> rfl)) (fun h => ?_) (fun h => wp_next ?_))
    · refine wp_ret ed_int ?_
      rw [List.isEmpty_iff.mp h] at rk
      rw [rk_nil rk]; rfl
    · have hp : 0 < R.length := by
        cases R with
        | nil => cases h
        | cons v vs => simp
      have at0 : itemD (.list (R.map tupI)) 0 = some (tupI R[0]) := atI_map (k := 0) (List.getElem?_eq_getElem hp)
      have w0 := hw _ (List.getElem_mem hp)
      refine wp_seq (wp_asg (d := .int (w : Nat)) (ED.of (d := .int ((R[0].map PyData.int).length : Nat)) (by repeat' first | walk_at "ev2" | exact at0 | fail) (by rw [List.length_map, w0])) ?_)
      refine wp_seq (wp_asgP (ep_call (ds := [.list (R.map tupI)]) (by walk_at "ev") ⟨R, w, rfl, hw, hl, hw2⟩) fun d hd => ?_)
      obtain ⟨r, rfl, lo⟩ := hd R rfl
      have hrt : r ≤ t := lo.le rk.2
      have t1 := rk_width hw rk
      have t2 := rk_rows rk
      refine wp_seq (wp_if (b := decide (r = min R.length w)) (ET.of (b := PyData.eqv (.int (r : Nat)) (.int (min ((R.map tupI).length : Nat) (w : Nat)))) (by repeat' first | walk_at "ev2" | fail) (by
        rw [List.length_map]
        show ((r : Int) == min (R.length : Int) (w : Int)) = _
        by_cases e : r = min R.length w
        · rw [decide_eq_true e, beq_iff_eq]; omega
        · rw [decide_eq_false e, beq_eq_false_iff_ne]; omega)) (fun h => ?_) (fun h => wp_next ?_))
      · have h := of_decide_eq_true h
        refine wp_ret (ed_var rfl) ?_
        have : r = t := by omega
        rw [this]
      · refine wp_retP (P := fun d => d = .int (t : Nat)) (ep_lenIx (n := t) ?_) (fun d h => h)
        have pre : Pre_red ⟨R, tupI, w, w, B⟩ [.list (R.map tupI), .int (w : Nat)] := ⟨rfl, fun r => rfl, hw, Nat.le_refl _, hw2, hl, hB, hb, hsz⟩
        refine (ep_callG (ds := [.list (R.map tupI), .int (w : Nat)]) ⟨R, tupI, w, w, B⟩ (by walk_at "ev") pre).mono' ?_
        rintro d ⟨cells, piv, loose, ok, rfl⟩
        refine ⟨_, _, _, rfl, ?_⟩
        unfold dictOf
        rw [List.length_map, List.length_reverse]
        exact ok.gj.done.uniq rk

/-! ### the law's test of lowest terms, and its rows -/
def R_llow (ds : List D) (d : D) : Prop := ∃ x : List Int, ds = [tupI x] ∧ (∀ a ∈ x, Lt 1900 a) ∧ d = .bool ((gcdL x : Int) == 1)
theorem gcd_lt {k g : Nat} {n : Int} (h : g < 2 ^ k) (hn : Lt k n) : Nat.gcd g n.natAbs < 2 ^ k := by
  by_cases hg : g = 0
  · subst hg
    rw [Nat.gcd_zero_left]; exact hn
  · exact Nat.lt_of_le_of_lt (Nat.gcd_le_left _ (Nat.pos_of_ne_zero hg)) h
def RowsP (w : Nat) (rows : List (List Int)) : Prop := rows.length ≤ 6 ∧ ∀ (i : Nat) (r : List Int), rows[i]? = some r → r.length = w ∧ ∀ j, (r.getD j 0).natAbs < 2 ^ (39 + 2 * i)
theorem partsM_len (cell : Int) : ∀ (ss : List Int) (k : Nat) (left : Int), (partsM cell ss k left).length = ss.length
  | [], _, _ => rfl
  | s :: ss, k, left => by rw [partsM, List.length_cons, List.length_cons, partsM_len cell ss]
theorem partsM_get (cell : Int) : ∀ (ss : List Int) (k : Nat) (left : Int) (i : Nat) (s : Int), ss[i]? = some s → 0 < s → 0 ≤ (partsM cell ss k left).getD i 0 ∧ (partsM cell ss k left).getD i 0 < s
  | [], _, _, i, s, h, _ => by cases h
  | t :: ss, k, left, 0, s, h, hs => by
    have h : t = s := Option.some.inj h
    subst h
    rw [partsM, List.getD_cons_zero]
    split
    · exact ⟨Int.emod_nonneg _ (by omega), Int.emod_lt_of_pos _ hs⟩
    · exact ⟨Int.emod_nonneg _ (by omega), Int.emod_lt_of_pos _ hs⟩
  | t :: ss, k, left, i + 1, s, h, hs => by
    rw [partsM, List.getD_cons_succ]
    exact partsM_get cell ss _ _ i s h hs
theorem parts_len (cell : Int) (ss : List Int) : (partsOf cell ss).length = ss.length := partsM_len _ _ _ _
theorem parts_get {cell : Int} {ss : List Int} (i : Nat) {s : Int} (h : ss[i]? = some s) (hs : 0 < s) : 0 ≤ (partsOf cell ss).getD i 0 ∧ (partsOf cell ss).getD i 0 < s := partsM_get _ _ _ _ i s h hs
theorem sizes_ok {ss : List Int} (h : ∀ s ∈ ss, 0 < s ∧ s < 2 ^ 200) : ∀ s ∈ ss, 0 < s ∧ Lt 8000 s := fun s hs => by
  obtain ⟨a, b⟩ := h s hs
  refine ⟨a, Lt.mono (a := 200) ?_⟩
  have : (2 : Int) ^ 200 = ((2 ^ 200 : Nat) : Int) := by decide
  unfold Lt
  omega
def szA : List Int := [7, 7]
def szB : List Int := [5, 3, 3, 5, 5] ++ List.replicate 6 19 ++ List.replicate 6 (10 ^ 12)

def Pre_lrows (ds : List D) : Prop := ∃ (sc : List Int) (w : Nat), ds = [.list (sc.map PyData.int), .int (w : Nat)] ∧ 1 ≤ w ∧ w ≤ 6
def Post_lrows (ds : List D) (d : D) : Prop := ∀ (sc : List Int) (w : Nat), ds = [.list (sc.map PyData.int), .int (w : Nat)] → ∃ rows : List (List Int), d = .list (rows.map tupI) ∧ RowsP w rows
theorem RowsP.next {w : Nat} {rows : List (List Int)} {r : List Int} (h : ∀ (i : Nat) (r : List Int), rows[i]? = some r → r.length = w ∧ ∀ j, (r.getD j 0).natAbs < 2 ^ (39 + 2 * i)) (hr : r.length = w) (hb : ∀ j, (r.getD j 0).natAbs < 2 ^ (39 + 2 * rows.length)) :
    ∀ (i : Nat) (x : List Int), (rows ++ [r])[i]? = some x → x.length = w ∧ ∀ j, (x.getD j 0).natAbs < 2 ^ (39 + 2 * i) := fun i x hx => by
  by_cases hi : i < rows.length
  · rw [List.getElem?_append_left hi] at hx
    exact h i x hx
  · have : i = rows.length := by
      have := (List.getElem?_eq_some_iff.mp hx).1
      rw [List.length_append] at this
      simp only [List.length_cons, List.length_nil] at this
      omega
    subst this
    rw [List.getElem?_append_right (Nat.le_refl _), Nat.sub_self] at hx
    have hx : r = x := Option.some.inj hx
    rw [← hx]
    exact ⟨hr, hb⟩
theorem getD_range {w : Nat} {f : Nat → Int} (j : Nat) : ((List.range w).map f).getD j 0 = f j ∨ ((List.range w).map f).getD j 0 = 0 := by
  by_cases hj : j < w
  · exact .inl (getD_of (by rw [List.getElem?_map, List.getElem?_range hj]; rfl))
  · right
    rw [List.getD_eq_getElem?_getD, List.getElem?_eq_none (by rw [List.length_map, List.length_range]; omega)]; rfl
theorem ok_u_law_rows (T : Txt K mg) : FnOk P w K mg base CX0 2 T.f_u_law_rows T.fd_u_law_rows ["script", "width"] (spP K Pre_lrows Post_lrows) := by
  refine ok_wpP T.F_u_law_rows sc_u_law_rows ?_ (fun cdv A outer s H E hr => ⟨_, (pss_cons (ps_set (i := 2) sc_u_law_rows.nd rfl (by first | exact Or.inl rfl | exact Or.inr rfl) (pe_lst pa_nil))
      (pss_cons (ps_set (i := 3) sc_u_law_rows.nd rfl (by first | exact Or.inl rfl | exact Or.inr rfl) (pe_call (ok_u_law_parts T) (hr.mono (by decide)) (by rfl) T.g_u_law_parts T.F_u_law_parts.kp T.b_u_law_parts .nil pass0 (pa_cons (pe_call (ok_u_law_cell T) (hr.mono (by decide)) (by rfl) T.g_u_law_cell T.F_u_law_cell.kp T.b_u_law_cell .nil pass0 (pa_cons (pv 0) (pa_cons pe_int pa_nil))) (pa_cons (pe_lst (pa_cons pe_int (pa_cons pe_int pa_nil))) pa_nil))))
      (pss_cons (ps_for PassesOwn.never rfl (pi_range1 (by rfl) T.z_range (pa_cons (pe_ix (kx_ix (K := K)) (pv 3) pe_int (fun _ _ => rfl)) pa_nil)) (pg_name (i := 4) sc_u_law_rows.nd rfl (by first | exact Or.inl rfl | exact Or.inr rfl))
      (pss_cons (ps_set (i := 5) sc_u_law_rows.nd rfl (by first | exact Or.inl rfl | exact Or.inr rfl) (pe_call (ok_u_law_parts T) (hr.mono (by decide)) (by rfl) T.g_u_law_parts T.F_u_law_parts.kp T.b_u_law_parts .nil pass0 (pa_cons (pe_op op_add (pe_call (ok_u_law_cell T) (hr.mono (by decide)) (by rfl) T.g_u_law_cell T.F_u_law_cell.kp T.b_u_law_cell .nil pass0 (pa_cons (pv 0) (pa_cons (pe_op op_add pe_int (pv 4)) pa_nil))) (pe_op op_mulX pe_int (pv 4))) (pa_cons (pe_op op_cat (pe_op op_cat (pe_lst (pa_cons pe_int (pa_cons pe_int (pa_cons pe_int (pa_cons pe_int (pa_cons pe_int pa_nil)))))) (pe_op op_rep (pe_lst (pa_cons pe_int pa_nil)) pe_int)) (pe_op op_rep (pe_lst (pa_cons (pe_op op_pow pe_int pe_int) pa_nil)) pe_int)) pa_nil))))
      (pss_cons (ps_setLc (i := 6) (own := [("j", 9)]) (by rfl) sc_u_law_rows.nd rfl rfl (sw_true rfl rfl rfl rfl) (pi_range1 (by rfl) T.z_range (pa_cons (pv 1) pa_nil)) (by refine blkOk_by ?_; rfl) (fun _ _ _ _ _ => pg_name (i := 9) sc_u_law_rows.nd rfl (by first | exact Or.inl rfl | exact Or.inr rfl)) (fun _ _ _ _ _ => pts_nil) (fun _ _ _ _ _ => (pe_op op_sub (pe_ix (kx_ix (K := K)) (pv 5) (pe_op op_add pe_int (pv 9)) (fun _ _ => rfl)) pe_int)))
      (pss_cons (ps_if (pt_cmpR (kx_eq (K := K) hr.units) (pe_ix (kx_ix (K := K)) (pv 5) pe_int (fun _ _ => rfl)) pe_int (nomark _)) (pss_one (ps_setLc (i := 6) (own := [("j", 9)]) (by rfl) sc_u_law_rows.nd rfl rfl (sw_true rfl rfl rfl rfl) (pi_range1 (by rfl) T.z_range (pa_cons (pv 1) pa_nil)) (by refine blkOk_by ?_; rfl) (fun _ _ _ _ _ => pg_name (i := 9) sc_u_law_rows.nd rfl (by first | exact Or.inl rfl | exact Or.inr rfl)) (fun _ _ _ _ _ => pts_nil) (fun _ _ _ _ _ => (pe_op op_sub (pe_ix (kx_ix (K := K)) (pv 5) (pe_op op_add pe_int (pv 9)) (fun _ _ => rfl)) (pe_op op_mulX pe_int (pe_op op_pow pe_int pe_int)))))) pss_nil)
      (pss_cons (ps_if (PW.pt (pw_and (pt_cmpR op_gt (pe_ix (kx_ix (K := K)) (pv 5) pe_int (fun _ _ => rfl)) pe_int (nomark _)) (pw_and1 (pt_cmpR op_gt (pe_callB (kx_len (K := K)) (by rfl) T.z_len (by decide +kernel) (pa_cons (pv 2) pa_nil)) pe_int (nomark _))))) (pss_cons (ps_set (i := 7) sc_u_law_rows.nd rfl (by first | exact Or.inl rfl | exact Or.inr rfl) (pe_ix (kx_ix (K := K)) (pv 2) (pe_op op_mod (pe_callTy cr_intQ (by rfl) T.z_int (by decide +kernel) (pa_cons (pe_ix (kx_ix (K := K)) (pv 5) pe_int (fun _ _ => rfl)) pa_nil)) (pe_callB (kx_len (K := K)) (by rfl) T.z_len (by decide +kernel) (pa_cons (pv 2) pa_nil))) (fun _ _ => rfl)))
      (pss_cons (ps_set (i := 8) sc_u_law_rows.nd rfl (by first | exact Or.inl rfl | exact Or.inr rfl) (pe_ix (kx_ix (K := K)) (pv 2) (pe_op op_mod (pe_callTy cr_intQ (by rfl) T.z_int (by decide +kernel) (pa_cons (pe_ix (kx_ix (K := K)) (pv 5) pe_int (fun _ _ => rfl)) pa_nil)) (pe_callB (kx_len (K := K)) (by rfl) T.z_len (by decide +kernel) (pa_cons (pv 2) pa_nil))) (fun _ _ => rfl)))
      (pss_one (ps_setLc (i := 6) (own := [("j", 9)]) (by rfl) sc_u_law_rows.nd rfl rfl (sw_true rfl rfl rfl rfl) (pi_range1 (by rfl) T.z_range (pa_cons (pv 1) pa_nil)) (by refine blkOk_by ?_; rfl) (fun _ _ _ _ _ => pg_name (i := 9) sc_u_law_rows.nd rfl (by first | exact Or.inl rfl | exact Or.inr rfl)) (fun _ _ _ _ _ => pts_nil) (fun _ _ _ _ _ => (pe_op op_add (pe_op op_mulX (pe_op op_sub (pe_ix (kx_ix (K := K)) (pv 5) pe_int (fun _ _ => rfl)) pe_int) (pe_ix (kx_ix (K := K)) (pv 7) (pv 9) (fun _ _ => rfl))) (pe_op op_mulX (pe_op op_sub (pe_ix (kx_ix (K := K)) (pv 5) pe_int (fun _ _ => rfl)) pe_int) (pe_ix (kx_ix (K := K)) (pv 8) (pv 9) (fun _ _ => rfl))))))))) pss_nil)
      (pss_one (ps_expr (pe_bm PySem.F.plainAttrs_list PySem.F.slot_list_append PySem.F.type_list_append mt_append (pv 2) (pa_cons (pe_callTy (kx_tuple (K := K)) (by rfl) T.z_tuple (by decide +kernel) (pa_cons (pv 6) pa_nil)) pa_nil)))))))))
      (pss_one (ps_ret (pv 2)))))), ?_⟩)
  all_goals (try simp only [nox_K, blk_K, cx_K])
  · rintro ds ⟨sc, w, rfl, _⟩; rfl
  · rintro ds ⟨sc, w, rfl, hw1, hw6⟩
    have cell : ∀ k : Nat, R_cell [.list (sc.map PyData.int), .int k] (.int (sc.getD k 0)) := fun k => ⟨sc, k, rfl, rfl⟩
    refine wp_seq (wp_asgN (by walk_at "ev") ?_)
    have c0 := cell 0
    have p0 : R_parts [.int (sc.getD 0 0), .list (szA.map PyData.int)] (.list ((partsOf (sc.getD 0 0) szA).map PyData.int)) := ⟨_, szA, rfl, sizes_ok (by decide +kernel), by decide, rfl⟩
    have g0 := parts_get (cell := sc.getD 0 0) (ss := szA) 0 (s := 7) rfl (by decide)
    have l0 : (partsOf (sc.getD 0 0) szA).length = 2 := parts_len _ _
    generalize partsOf (sc.getD 0 0) szA = P0 at *
    refine wp_seq (wp_asg (by repeat' first | walk_at "ev2" | exact c0 | exact p0 | fail) ?_)
    have a0 : itemD (.list (P0.map PyData.int)) 0 = some (.int (P0.getD 0 0)) := atI_int (x := P0) (c := 0) (by omega)
    obtain ⟨n, hn⟩ : ∃ n : Nat, P0.getD 0 0 = n := ⟨(P0.getD 0 0).toNat, by omega⟩
    have hn6 : n ≤ 6 := by omega
    rw [hn] at a0
    refine wp_seq (wp_forG (xs := List.range n) (g := fun k => PyData.int (k : Nat))
      (fun i δ => ∃ (rows : List (List Int)) (a b c e f g : SV), δ = [.val (.list (sc.map PyData.int)), .val (.int (w : Nat)), .own (.l (rows.map tupI)), .val (.list (P0.map PyData.int)), a, b, c, e, f, g] ∧ rows.length = i ∧ ∀ (i : Nat) (r : List Int), rows[i]? = some r → r.length = w ∧ ∀ j, (r.getD j 0).natAbs < 2 ^ (39 + 2 * i))
      (by repeat' first | walk_at "ev2" | exact a0 | (show (_ : Nat) ≤ _; omega) | fail) ⟨[], _, _, _, _, _, _, rfl, rfl, fun i r h => by cases h⟩ ?_ ?_)
    · rintro i k δ ex ⟨rows, a, b, c, e, f, g, rfl, hl, hr⟩
      have hin : i < n := by
        have := (List.getElem?_eq_some_iff.mp ex).1
        rwa [List.length_range] at this
      have : k = i := by
        rw [List.getElem?_range hin] at ex
        exact (Option.some.inj ex).symm
      subst this
      have c1 := cell (1 + k)
      have p1 : R_parts [.int (sc.getD (1 + k) 0 + 31 * k), .list (szB.map PyData.int)] (.list ((partsOf (sc.getD (1 + k) 0 + 31 * k) szB).map PyData.int)) := ⟨_, szB, rfl, sizes_ok (by decide +kernel), by decide, rfl⟩
      have l1 : (partsOf (sc.getD (1 + k) 0 + 31 * k) szB).length = 17 := parts_len _ _
      have gA : ∀ j, j < 6 → 0 ≤ (partsOf (sc.getD (1 + k) 0 + 31 * k) szB).getD (5 + j) 0 ∧ (partsOf (sc.getD (1 + k) 0 + 31 * k) szB).getD (5 + j) 0 < 19 := fun j hj => by
        rcases (show j = 0 ∨ j = 1 ∨ j = 2 ∨ j = 3 ∨ j = 4 ∨ j = 5 by omega) with rfl | rfl | rfl | rfl | rfl | rfl <;> exact parts_get _ rfl (by decide)
      have gB : ∀ j, j < 6 → 0 ≤ (partsOf (sc.getD (1 + k) 0 + 31 * k) szB).getD (11 + j) 0 ∧ (partsOf (sc.getD (1 + k) 0 + 31 * k) szB).getD (11 + j) 0 < 10 ^ 12 := fun j hj => by
        rcases (show j = 0 ∨ j = 1 ∨ j = 2 ∨ j = 3 ∨ j = 4 ∨ j = 5 by omega) with rfl | rfl | rfl | rfl | rfl | rfl <;> exact parts_get _ rfl (by decide)
      have g1 := parts_get (cell := sc.getD (1 + k) 0 + 31 * k) (ss := szB) 1 (s := 3) rfl (by decide)
      have g2 := parts_get (cell := sc.getD (1 + k) 0 + 31 * k) (ss := szB) 2 (s := 3) rfl (by decide)
      have g3 := parts_get (cell := sc.getD (1 + k) 0 + 31 * k) (ss := szB) 3 (s := 5) rfl (by decide)
      have g4 := parts_get (cell := sc.getD (1 + k) 0 + 31 * k) (ss := szB) 4 (s := 5) rfl (by decide)
      generalize partsOf (sc.getD (1 + k) 0 + 31 * k) szB = Q at *
      have at_ : ∀ j : Nat, j < 17 → itemD (.list (Q.map PyData.int)) (j : Int) = some (.int (Q.getD j 0)) := fun j hj => atI_int (x := Q) (c := j) (by omega)
      have q0 := at_ 0 (by decide)
      have q1 := at_ 1 (by decide)
      have q2 := at_ 2 (by decide)
      have q3 := at_ 3 (by decide)
      have q4 := at_ 4 (by decide)
      refine wp_seq (wp_asg (by repeat' first | walk_at "ev2" | exact c1 | exact p1 | exact mulL (by decide) | (show -(2 ^ 63) ≤ _ ∧ _; decide) | fail) ?_)
      have rok : ∀ (r : List Int), r.length = w → (∀ j, (r.getD j 0).natAbs < 2 ^ (39 + 2 * rows.length)) → ∀ (a b c e : SV),
          ∃ (rows' : List (List Int)) (a' b' c' e' f' g' : SV), [.val (.list (sc.map PyData.int)), .val (.int (w : Nat)), .own (.l ((rows ++ [r]).map tupI)), .val (.list (P0.map PyData.int)), .val (.int (k : Nat)), .val (.list (Q.map PyData.int)), a, b, c, e] = [.val (.list (sc.map PyData.int)), .val (.int (w : Nat)), .own (.l (rows'.map tupI)), .val (.list (P0.map PyData.int)), a', b', c', e', f', g'] ∧ rows'.length = k + 1 ∧ ∀ (i : Nat) (r : List Int), rows'[i]? = some r → r.length = w ∧ ∀ j, (r.getD j 0).natAbs < 2 ^ (39 + 2 * i) :=
        fun r h1 h2 a b c e => ⟨rows ++ [r], _, _, _, _, _, _, rfl, by rw [List.length_append, hl]; rfl, RowsP.next hr h1 h2⟩
      have pw : 2 ^ 39 ≤ 2 ^ (39 + 2 * rows.length) := Nat.pow_le_pow_right (by decide) (by omega)
      have lw : ∀ g : Nat → Int, ((List.range w).map g).length = w := fun g => by rw [List.length_map, List.length_range]
      refine wp_seq (wp_asg (EN.ed (en_lc1 (xs := List.range w) (g := fun k => PyData.int (k : Nat)) (f := fun j => PyData.int (Q.getD (5 + j) 0 - 9)) (ei_rngN (ed_var rfl) rfl (by omega)) (sz_small (by rw [List.length_range]; omega)) fun j hj => ?_)) ?_)
      · have hj := List.mem_range.mp hj
        have qj := at_ (5 + j) (by omega)
        repeat' first | walk_at "ev2" | exact qj | fail
      have e1 : (List.range w).map (fun j => PyData.int (Q.getD (5 + j) 0 - 9)) = ((List.range w).map fun j => Q.getD (5 + j) 0 - 9).map PyData.int := by rw [List.map_map]; rfl
      rw [e1]
      refine wp_seq (wp_cut (fun δ => ∃ (r : List Int) (a b c : SV), δ = [.val (.list (sc.map PyData.int)), .val (.int (w : Nat)), .own (.l (rows.map tupI)), .val (.list (P0.map PyData.int)), .val (.int (k : Nat)), .val (.list (Q.map PyData.int)), .val (listI r), a, b, c] ∧ r.length = w ∧ ∀ j, (r.getD j 0).natAbs < 2 ^ 39) (wp_if (by repeat' first | walk_at "ev2" | exact q0 | fail) (fun h => ?_) (fun h => ?_)) ?_)
      · refine wp_asg (EN.ed (en_lc1 (xs := List.range w) (g := fun k => PyData.int (k : Nat)) (f := fun j => PyData.int (Q.getD (11 + j) 0 - 5 * 10 ^ 11)) (ei_rngN (ed_var rfl) rfl (by omega)) (sz_small (by rw [List.length_range]; omega)) fun j hj => ?_)) ?_
        · have hj := List.mem_range.mp hj
          have qj := at_ (11 + j) (by omega)
          refine ED.of (d' := .int (Q.getD (11 + j) 0 - 5 * 10 ^ 11)) (by repeat' first | walk_at "ev2" | exact qj | exact mulL (by decide) | fail) rfl
        · have e2 : (List.range w).map (fun j => PyData.int (Q.getD (11 + j) 0 - 5 * 10 ^ 11)) = ((List.range w).map fun j => Q.getD (11 + j) 0 - 5 * 10 ^ 11).map PyData.int := by rw [List.map_map]; rfl
          rw [e2]
          refine ⟨_, _, _, _, rfl, lw _, fun j => ?_⟩
          by_cases hj : j < w
          · rcases getD_range (w := w) (f := fun j => Q.getD (11 + j) 0 - 5 * 10 ^ 11) j with z | z
            · rw [z]
              have := gB j (by omega)
              omega
            · rw [z]; decide
          · rw [List.getD_eq_getElem?_getD, List.getElem?_eq_none (by rw [lw]; omega)]; decide
      · refine wp_next ⟨_, _, _, _, rfl, lw _, fun j => ?_⟩
        by_cases hj : j < w
        · rcases getD_range (w := w) (f := fun j => Q.getD (5 + j) 0 - 9) j with z | z
          · rw [z]
            have := gA j (by omega)
            omega
          · rw [z]; decide
        · rw [List.getD_eq_getElem?_getD, List.getElem?_eq_none (by rw [lw]; omega)]; decide
      · rintro δ ⟨r, a, b, c, rfl, hrw, hrb⟩
        have rbl : ∀ j, (r.getD j 0).natAbs < 2 ^ (39 + 2 * rows.length) := fun j => Nat.lt_of_lt_of_le (hrb j) pw
        refine wp_seq (wp_cut (fun δ => ∃ (r : List Int) (a b c : SV), δ = [.val (.list (sc.map PyData.int)), .val (.int (w : Nat)), .own (.l (rows.map tupI)), .val (.list (P0.map PyData.int)), .val (.int (k : Nat)), .val (.list (Q.map PyData.int)), .val (listI r), a, b, c] ∧ r.length = w ∧ ∀ j, (r.getD j 0).natAbs < 2 ^ (39 + 2 * rows.length)) (wp_if (et_and (a := decide (Q.getD 0 0 > 2)) (b := decide (((rows.map tupI).length : Int) > 0)) (by repeat' first | walk_at "ev2" | exact q0 | fail) (fun _ => by repeat' first | exact ed_lenOwn rfl | walk_at "ev2" | fail)) (fun h => ?_) (fun h => ?_)) ?_)
        · have hL : 0 < rows.length := by
            have h := (Bool.and_eq_true _ _ ▸ h : _ ∧ _).2
            have h := of_decide_eq_true h
            rw [List.length_map] at h
            omega
          have ix : ∀ q : Int, ∃ o : List Int, o.length = w ∧ (∀ j, (o.getD j 0).natAbs < 2 ^ (37 + 2 * rows.length)) ∧ atI (rows.map tupI) (q % (((rows.map tupI).length : Nat) : Int)) = some (tupI o) := fun q => by
            rw [List.length_map]
            have h1 := Int.emod_nonneg q (show (rows.length : Int) ≠ 0 by omega)
            have h2 := Int.emod_lt_of_pos q (show (0 : Int) < rows.length by omega)
            obtain ⟨t, ht⟩ : ∃ t : Nat, q % (rows.length : Int) = t := ⟨(q % (rows.length : Int)).toNat, by omega⟩
            rw [ht]
            have htl : t < rows.length := by omega
            obtain ⟨o1, o2⟩ := hr t rows[t] (List.getElem?_eq_getElem htl)
            exact ⟨rows[t], o1, fun j => Nat.lt_of_lt_of_le (o2 j) (Nat.pow_le_pow_right (by decide) (by omega)), atI_map (List.getElem?_eq_getElem htl)⟩
          obtain ⟨o1, w1, b1, x1⟩ := ix (Q.getD 1 0)
          obtain ⟨o2, w2, b2, x2⟩ := ix (Q.getD 2 0)
          have hL0 : (0 : Int) < (((rows.map tupI).length : Nat) : Int) := by rw [List.length_map]; omega
          refine wp_seq (wp_asg (ed_ixOwn (i := Q.getD 1 0 % (((rows.map tupI).length : Nat) : Int)) rfl (by repeat' first | exact ed_lenOwn rfl | walk_at "ev2" | exact q1 | exact hL0 | fail) x1) ?_)
          refine wp_seq (wp_asg (ed_ixOwn (i := Q.getD 2 0 % (((rows.map tupI).length : Nat) : Int)) rfl (by repeat' first | exact ed_lenOwn rfl | walk_at "ev2" | exact q2 | exact hL0 | fail) x2) ?_)
          refine wp_asg (EN.ed (en_lc1 (xs := List.range w) (g := fun k => PyData.int (k : Nat)) (f := fun j => PyData.int ((Q.getD 3 0 - 2) * o1.getD j 0 + (Q.getD 4 0 - 2) * o2.getD j 0)) (ei_rngN (ed_var rfl) rfl (by omega)) (sz_small (by rw [List.length_range]; omega)) fun j hj => ?_)) ?_
          · have hj := List.mem_range.mp hj
            have y1 : itemD (tupI o1) (j : Int) = some (.int (o1.getD j 0)) := atI_int (x := o1) (c := j) (by omega)
            have y2 : itemD (tupI o2) (j : Int) = some (.int (o2.getD j 0)) := atI_int (x := o2) (c := j) (by omega)
            have m3 : Lt 3 (Q.getD 3 0 - 2) := by show _ < _; omega
            have m4 : Lt 3 (Q.getD 4 0 - 2) := by show _ < _; omega
            repeat' first | walk_at "ev2" | exact q3 | exact q4 | exact y1 | exact y2 | exact mulL (by omega) | fail
          · have e2 : (List.range w).map (fun j => PyData.int ((Q.getD 3 0 - 2) * o1.getD j 0 + (Q.getD 4 0 - 2) * o2.getD j 0)) = ((List.range w).map fun j => (Q.getD 3 0 - 2) * o1.getD j 0 + (Q.getD 4 0 - 2) * o2.getD j 0).map PyData.int := by rw [List.map_map]; rfl
            rw [e2]
            refine ⟨_, _, _, _, rfl, lw _, fun j => ?_⟩
            have e4 : 2 ^ (39 + 2 * rows.length) = 4 * 2 ^ (37 + 2 * rows.length) := by
              rw [show 39 + 2 * rows.length = 2 + (37 + 2 * rows.length) by omega, Nat.pow_add]
            rw [e4]
            have pp : 0 < 2 ^ (37 + 2 * rows.length) := Nat.pow_pos (by decide)
            have s1 := b1 j
            have s2 := b2 j
            rcases getD_range (w := w) (f := fun j => (Q.getD 3 0 - 2) * o1.getD j 0 + (Q.getD 4 0 - 2) * o2.getD j 0) j with z | z
            · rw [z]
              generalize 2 ^ (37 + 2 * rows.length) = N at *
              have t1 : ((Q.getD 3 0 - 2) * o1.getD j 0).natAbs ≤ 2 * (o1.getD j 0).natAbs := by
                rw [Int.natAbs_mul]
                exact Nat.mul_le_mul_right _ (by omega)
              have t2 : ((Q.getD 4 0 - 2) * o2.getD j 0).natAbs ≤ 2 * (o2.getD j 0).natAbs := by
                rw [Int.natAbs_mul]
                exact Nat.mul_le_mul_right _ (by omega)
              omega
            · rw [z]
              show 0 < _
              omega
        · exact wp_next ⟨r, a, b, c, rfl, hrw, rbl⟩
        · rintro δ ⟨r, a, b, c, rfl, hrw, hrb⟩
          refine wp_app (d := tupI r) rfl (ed_tupleOf (by walk_at "ev") rfl) (by rw [List.length_map]; exact small1000 (by omega)) ?_
          have := rok r hrw hrb (.val (listI r)) a b c
          rw [List.map_append] at this
          exact this
    · rintro δ ⟨rows, a, b, c, e, f, g, rfl, hl, hr⟩
      rw [List.length_range] at hl
      refine wp_retOwn rfl fun sc' w' h => ?_
      have h2 : PyData.int ((w : Nat) : Int) = .int ((w' : Nat) : Int) := by
        injection h with _ h; injection h
      have : w = w' := by
        injection h2 with h2; omega
      subst this
      exact ⟨rows, rfl, by omega, hr⟩

def R_law (ds : List D) (d : D) : Prop := ∃ ns : List Int, ds = [.list (ns.map PyData.int)] ∧ ns.length ≤ 63 ∧ d = .bool true
def szW : List Int := [7, 6]
def rowsD (rs : List (List Int)) : D := .list (rs.map tupI)
theorem shp_rows {rs : List (List Int)} : Shp 2 (rowsD rs) := shp_list (shp_map fun _ => shp_tints)
def SomeP (w : Nat) (rs : List (List Int)) : Prop := rs.length ≤ 6 ∧ (∀ r ∈ rs, r.length = w) ∧ ∀ r ∈ rs, ∀ j, (r.getD j 0).natAbs ≤ 2 ^ 49
theorem RowsP.some {w : Nat} {rows : List (List Int)} (h : RowsP w rows) : SomeP w rows := by
  obtain ⟨h1, h2⟩ := h
  refine ⟨h1, fun r hr => ?_, fun r hr j => ?_⟩
  · obtain ⟨i, hi, rfl⟩ := List.mem_iff_getElem.mp hr
    exact (h2 i _ (List.getElem?_eq_getElem hi)).1
  · obtain ⟨i, hi, rfl⟩ := List.mem_iff_getElem.mp hr
    exact Nat.le_of_lt (Nat.lt_of_lt_of_le ((h2 i _ (List.getElem?_eq_getElem hi)).2 j) (Nat.pow_le_pow_right (by decide) (by omega)))
theorem facB_mono' {B : Nat} (hB : 0 < B) : ∀ {a b : Nat}, a ≤ b → Wed.fac a * B ^ a ≤ Wed.fac b * B ^ b := facB_mono hB
open Lin Wed Elim in
theorem rk_perm {R R' : List (List Int)} {t : Nat} (h : ∀ r, r ∈ R ↔ r ∈ R') (k : Rk (RowsA R) t) : Rk (RowsA R') t := by
  have a : ∀ v, RowsA R v → RowsA R' v := fun v ⟨f, hf, e⟩ => by
    obtain ⟨r, hr, rfl⟩ := List.mem_map.mp hf
    exact ⟨_, List.mem_map.mpr ⟨r, (h r).mp hr, rfl⟩, e⟩
  have b : ∀ v, RowsA R' v → RowsA R v := fun v ⟨f, hf, e⟩ => by
    obtain ⟨r, hr, rfl⟩ := List.mem_map.mp hf
    exact ⟨_, List.mem_map.mpr ⟨r, (h r).mpr hr, rfl⟩, e⟩
  exact ⟨k.1.sub fun v hv => .mem (a v hv), k.2.sub fun v hv => .mem (b v hv)⟩
open Lin Wed Elim in
theorem rk_ex (R : List (List Int)) : ∃ t, Rk (RowsA R) t := by
  have hl := hi_rows (R.map rowF)
  have h0 : Lo (RowsA R) 0 := ⟨fun _ _ => 0, fun i hi => absurd hi (Nat.not_lt_zero _), fun x _ i hi => absurd hi (Nat.not_lt_zero _)⟩
  obtain ⟨r, lo, nlo⟩ : ∃ r, Lo (RowsA R) r ∧ ¬ Lo (RowsA R) (r + 1) := by
    apply Classical.byContradiction
    intro hn
    have step : ∀ r, Lo (RowsA R) r → Lo (RowsA R) (r + 1) := fun r h => Classical.byContradiction fun z => hn ⟨r, h, z⟩
    have all : ∀ r, Lo (RowsA R) r := fun r => by
      induction r with
      | zero => exact h0
      | succ r ih => exact step r ih
    have := (all ((R.map rowF).length + 1)).le hl
    omega
  refine ⟨r, lo, ?_⟩
  obtain ⟨V, hV, ind⟩ := lo
  refine ⟨V, fun a ha => Classical.byContradiction fun hz => nlo ⟨fun i => if i < r then V i else a, fun i hi => ?_, fun x hx i hi => ?_⟩⟩
  · show Sp (RowsA R) (if i < r then V i else a)
    by_cases h : i < r
    · rw [if_pos h]; exact hV i h
    · rw [if_neg h]; exact .mem ha
  · have e1 : ∀ j, S r (fun i => x i * V i j) + x r * a j = 0 := fun j => by
      have := hx j
      have e : S (r + 1) (fun i => x i * (if i < r then V i else a) j) = S r (fun i => x i * V i j) + x r * a j := by
        show S r (fun i => x i * (if i < r then V i else a) j) + x r * (if r < r then V r else a) j = _
        rw [if_neg (Nat.lt_irrefl r)]
        congr 1
        exact S_congr fun i hi => by rw [if_pos hi]
      rw [e] at this
      exact this
    have xr : x r = 0 := Classical.byContradiction fun hne => hz (Sp.of (sp_S (A := Of r V) (c := fun i => -(x i) / x r) (V := V) (n := r) fun i hi => .mem ⟨i, hi, rfl⟩) fun j => by
      have e2 : S r (fun i => -(x i) / x r * V i j) = (-1 / x r) * S r (fun i => x i * V i j) := by
        rw [← S_mul]
        exact S_congr fun i _ => by grind
      rw [e2]
      have := e1 j
      generalize S r (fun i => x i * V i j) = s at *
      grind)
    by_cases h : i < r
    · refine ind x (fun j => ?_) i h
      have := e1 j
      rw [xr, Rat.zero_mul, Rat.add_zero] at this
      exact this
    · have : i = r := by omega
      rw [this]; exact xr
theorem ok_law (T : Txt K mg) : FnOk P w K mg base CX0 5 T.f_law T.fd_law ["script"] (spD K R_law) := by
  refine ok_wp T.F_law sc_law ?_ (fun cdv A outer s H E hr => ⟨_, (pss_cons (ps_set (i := 1) sc_law.nd rfl (by first | exact Or.inl rfl | exact Or.inr rfl) (pe_op op_add pe_int (pe_ix (kx_ix (K := K)) (pe_call (ok_u_law_parts T) (hr.mono (by decide)) (by rfl) T.g_u_law_parts T.F_u_law_parts.kp T.b_u_law_parts .nil pass0 (pa_cons (pe_call (ok_u_law_cell T) (hr.mono (by decide)) (by rfl) T.g_u_law_cell T.F_u_law_cell.kp T.b_u_law_cell .nil pass0 (pa_cons (pv 0) (pa_cons pe_int pa_nil))) (pa_cons (pe_lst (pa_cons pe_int (pa_cons pe_int pa_nil))) pa_nil))) pe_int (fun _ _ => rfl))))
      (pss_cons (ps_set (i := 2) sc_law.nd rfl (by first | exact Or.inl rfl | exact Or.inr rfl) (pe_call (ok_u_law_rows T) (hr.mono (by decide)) (by rfl) T.g_u_law_rows T.F_u_law_rows.kp T.b_u_law_rows .nil pass0 (pa_cons (pv 0) (pa_cons (pv 1) pa_nil))))
      (pss_cons (ps_set (i := 3) sc_law.nd rfl (by first | exact Or.inl rfl | exact Or.inr rfl) (pe_callTy (kx_list (K := K)) (by rfl) T.z_list (by decide +kernel) (pa_cons (pv 2) pa_nil)))
      (pss_cons (ps_set (i := 4) sc_law.nd rfl (by first | exact Or.inl rfl | exact Or.inr rfl) (pe_call (ok_u_law_rank T) (hr.mono (by decide)) (by rfl) T.g_u_law_rank T.F_u_law_rank.kp T.b_u_law_rank .nil pass0 (pa_cons (pv 2) (pa_cons (pv 1) pa_nil))))
      (pss_cons (ps_if (PW.pt (pw_or (pt_not (pt_val (pe_call (ok_u_law_is_integer T) (hr.mono (by decide)) (by rfl) T.g_u_law_is_integer T.F_u_law_is_integer.kp T.b_u_law_is_integer .nil pass0 (pa_cons (pe_call (ok_rank T) (hr.mono (by decide)) (by rfl) T.g_rank T.F_rank.kp T.b_rank .nil pass0 (pa_cons (pv 2) pa_nil)) pa_nil)))) (pw_or (pt_cmpR (kx_ne (K := K) hr.units) (pe_call (ok_rank T) (hr.mono (by decide)) (by rfl) T.g_rank T.F_rank.kp T.b_rank .nil pass0 (pa_cons (pv 2) pa_nil)) (pv 4) (nomark _)) (pw_or1 (pt_cmpR (kx_ne (K := K) hr.units) (pv 2) (pv 3) (nomark _)))))) (pss_one (ps_ret pe_bl)) pss_nil)
      (pss_one (ps_ret (pe_and (pe_cmpR (kx_eq (K := K) hr.units) (pe_call (ok_rank T) (hr.mono (by decide)) (by rfl) T.g_rank T.F_rank.kp T.b_rank .nil pass0 (pa_cons (kpe_rev (K := K) (pv 2)) pa_nil)) (pv 4) (nomark _)) (pe_one (pe_cmpR (kx_eq (K := K) hr.units) (pe_call (ok_rank T) (hr.mono (by decide)) (by rfl) T.g_rank T.F_rank.kp T.b_rank .nil pass0 (pa_cons (pe_lst pa_nil) pa_nil)) pe_int (nomark _))))))))))), ?_⟩)
  all_goals (try simp only [nox_K, blk_K, cx_K])
  · rintro ds d ⟨ns, rfl, _⟩; rfl
  · rintro ds d ⟨ns, rfl, hl, rfl⟩
    have r0 : R_cell [.list (ns.map PyData.int), .int 0] (.int (ns.getD 0 0)) := ⟨ns, 0, rfl, rfl⟩
    have p0 : R_parts [.int (ns.getD 0 0), .list (szW.map PyData.int)] (.list ((partsOf (ns.getD 0 0) szW).map PyData.int)) := ⟨_, szW, rfl, sizes_ok (by decide +kernel), by decide, rfl⟩
    have g0 := parts_get (cell := ns.getD 0 0) (ss := szW) 1 (s := 6) rfl (by decide)
    have l0 : (partsOf (ns.getD 0 0) szW).length = 2 := parts_len _ _
    generalize partsOf (ns.getD 0 0) szW = P0 at *
    have a0 : itemD (.list (P0.map PyData.int)) 1 = some (.int (P0.getD 1 0)) := atI_int (x := P0) (c := 1) (by omega)
    obtain ⟨w, hw⟩ : ∃ w : Nat, 1 + P0.getD 1 0 = w := ⟨(1 + P0.getD 1 0).toNat, by omega⟩
    refine wp_seq (wp_asg (ED.of (d' := .int (w : Nat)) (by repeat' first | walk_at "ev2" | exact r0 | exact p0 | exact a0 | fail) (by rw [← hw])) ?_)
    have hw1 : 1 ≤ w := by omega
    have hw6 : w ≤ 6 := by omega
    clear hw g0 a0 p0 r0
    refine wp_seq (wp_asgP (ep_call (by walk_at "ev") ⟨ns, w, rfl, hw1, hw6⟩) fun d hd => ?_)
    obtain ⟨rows, rfl, hrows⟩ := hd ns w rfl
    obtain ⟨hn, hlen, hB⟩ := hrows.some
    obtain ⟨t, rk⟩ := rk_ex rows
    have m7 : Wed.fac 7 * (2 ^ 49) ^ 7 < 2 ^ 3900 := Nat.lt_of_le_of_lt (show Wed.fac 7 * (2 ^ 49) ^ 7 ≤ 2 ^ 400 by decide +kernel) (Nat.pow_lt_pow_right (by decide) (by decide))
    have pr : ∀ rs : List (List Int), SomeP w rs → ∀ t, Elim.Rk (RowsA rs) t → R_rank [rowsD rs] (.int (t : Nat)) := fun rs h t k => ⟨rs, w, 2 ^ 49, t, rfl, h.2.1, by have := h.1; omega, by omega, by decide, h.2.2, Nat.lt_of_le_of_lt (facB_mono (by decide) (by have := h.1; omega)) m7, k, rfl⟩
    have rk1 := pr rows ⟨hn, hlen, hB⟩ t rk
    have rk2 := pr rows.reverse ⟨by rw [List.length_reverse]; exact hn, fun r hr => hlen r (List.mem_reverse.mp hr), fun r hr => hB r (List.mem_reverse.mp hr)⟩ t (rk_perm (fun r => List.mem_reverse.symm) rk)
    have rk3 := pr [] ⟨by decide, fun r hr => (by cases hr), fun r hr => (by cases hr)⟩ 0 (by
      obtain ⟨s, hs⟩ := rk_ex []
      have := rk_nil hs
      rw [this] at hs; exact hs)
    have lr : R_lrank [rowsD rows, .int (w : Nat)] (.int (t : Nat)) := ⟨rows, tupI, w, 2 ^ 49, t, rfl, fun r => rfl, hlen, by omega, by omega, by decide, hB, by
      have m : Wed.fac rows.length * (2 ^ 49) ^ rows.length ≤ Wed.fac 6 * (2 ^ 49) ^ 6 := facB_mono (by decide) hn
      exact Nat.lt_of_le_of_lt m (by decide +kernel), rk, rfl⟩
    have ii : R_isInt [.int (t : Nat)] (.bool true) := ⟨_, rfl, rfl⟩
    refine wp_seq (wp_asg (d := rowsD rows) (EN.ed (en_list (ed_var rfl) rfl)) ?_)
    refine wp_seq (wp_asg (d := .int (t : Nat)) (ed_call (ds := [rowsD rows, .int (w : Nat)]) (ea_cons (ed_var rfl) (ea_cons (ed_var rfl) ea_nil)) lr) ?_)
    have er : ∀ δ : List SV, δ[2]? = some (.val (rowsD rows)) → EA K (tCons (tVar 2) tNil) δ [rowsD rows] := fun δ h => ea_cons (ed_var h) ea_nil
    refine wp_seq (wp_if (b := false) (ET.of (by repeat' first | exact er _ rfl | walk_at "ev2" | exact rk1 | exact ii | exact Shp.shaped shp_rows | fail) (by
      rw [eqv_self (n := 0) shp_int, show PyData.eqv (.list (rows.map tupI)) (rowsD rows) = true from eqv_self shp_rows]; rfl)) (fun h => nomatch h) (fun _ => wp_next ?_))
    refine wp_ret (d := .bool true) (ED.of (d := .bool (PyData.eqv (.int (t : Nat)) (.int (t : Nat)) && PyData.eqv (.int ((0 : Nat) : Int)) (.int 0))) (ed_andV (ed_eqD (ed_call (ds := [rowsD rows.reverse]) (ea_cons (ED.of (EN.ed (en_rev (ed_var rfl))) (by unfold rowsD; rw [List.map_reverse])) ea_nil) rk2) (ed_var rfl) (Shp.shaped (n := 0) shp_int) (Shp.shaped (n := 0) shp_int) rfl) (fun _ => ed_eqD (ed_call (ds := [rowsD []]) (ea_cons (EN.ed (en_lst ea_nil (by decide))) ea_nil) rk3) ed_int (Shp.shaped (n := 0) shp_int) (Shp.shaped (n := 0) shp_int) rfl)) (by rw [eqv_self (n := 0) shp_int]; rfl)) rfl

theorem law_end {K : PySem.W.Frag} {H : Hp} {a : Addr} {ns : List Int} (hl : ns.length ≤ 63) (hS : SqL K H a (ns.map V.int)) : spD K R_law [.ref a] H (fun v _ => v = .bl true) (fun _ _ _ => False) :=
  ⟨H, [.list (ns.map PyData.int)], .bool true, ⟨ns, rfl, hl, rfl⟩, Same.refl _, .cons (.lst hS DqAll.ofInts) .nil, fun _ _ _ _ dv => Dq.bool_inv dv⟩
end
theorem all_mk {l : PySem.W.OpenLaw} {w : World} {K : PySem.W.Frag} {h : Heap} {mg : Str → Option Value} {fa : Addr} (X : K.In h) (G : h.Ns mainGlobals mg) (hfa : mg "law" = some (.ref fa))
    {f0 f1 f2 f3 f4 f5 f6 f7 f8 f9 f10 f11 f12 f13 f14 f15 f16 f17 f18 : Addr}
    {od0 an0 : Option Addr} {sl0 : Array (Option Value)} {oc0 kV0 dc0 pm0 cd0 ct0 : Value}
    {od1 an1 : Option Addr} {sl1 : Array (Option Value)} {oc1 kV1 dc1 pm1 cd1 ct1 : Value}
    {od2 an2 : Option Addr} {sl2 : Array (Option Value)} {oc2 kV2 dc2 pm2 cd2 ct2 : Value}
    {od3 an3 : Option Addr} {sl3 : Array (Option Value)} {oc3 kV3 dc3 pm3 cd3 ct3 : Value}
    {od4 an4 : Option Addr} {sl4 : Array (Option Value)} {oc4 kV4 dc4 pm4 cd4 ct4 : Value}
    {od5 an5 : Option Addr} {sl5 : Array (Option Value)} {oc5 kV5 dc5 pm5 cd5 ct5 : Value}
    {od6 an6 : Option Addr} {sl6 : Array (Option Value)} {oc6 kV6 dc6 pm6 cd6 ct6 : Value}
    {od7 an7 : Option Addr} {sl7 : Array (Option Value)} {oc7 kV7 dc7 pm7 cd7 ct7 : Value}
    {od8 an8 : Option Addr} {sl8 : Array (Option Value)} {oc8 kV8 dc8 pm8 cd8 ct8 : Value}
    {od9 an9 : Option Addr} {sl9 : Array (Option Value)} {oc9 kV9 dc9 pm9 cd9 ct9 : Value}
    {od10 an10 : Option Addr} {sl10 : Array (Option Value)} {oc10 kV10 dc10 pm10 cd10 ct10 : Value}
    {od11 an11 : Option Addr} {sl11 : Array (Option Value)} {oc11 kV11 dc11 pm11 cd11 ct11 : Value}
    {od12 an12 : Option Addr} {sl12 : Array (Option Value)} {oc12 kV12 dc12 pm12 cd12 ct12 : Value}
    {od13 an13 : Option Addr} {sl13 : Array (Option Value)} {oc13 kV13 dc13 pm13 cd13 ct13 : Value}
    {od14 an14 : Option Addr} {sl14 : Array (Option Value)} {oc14 kV14 dc14 pm14 cd14 ct14 : Value}
    {od15 an15 : Option Addr} {sl15 : Array (Option Value)} {oc15 kV15 dc15 pm15 cd15 ct15 : Value}
    {od16 an16 : Option Addr} {sl16 : Array (Option Value)} {oc16 kV16 dc16 pm16 cd16 ct16 : Value}
    {od17 an17 : Option Addr} {sl17 : Array (Option Value)} {oc17 kV17 dc17 pm17 cd17 ct17 : Value}
    {od18 an18 : Option Addr} {sl18 : Array (Option Value)} {oc18 kV18 dc18 pm18 cd18 ct18 : Value}
    (a0 : PySem.W.nsIn K mainGlobals "lowest" = some (some (.ref f0))) (l0 : K.lookup f0 = some ⟨oc0, od0, .func (PySem.W.fnOf "lowest" "lowest" (defArgs s_lowest) (defBody s_lowest) (defScope s_lowest) .none kV0 dc0 pm0 an0 cd0 ct0), sl0⟩) (c0 : PySem.W.codeIn K cd0 "lowest" = true) (k0 : PySem.W.keepIn K (.ref f0) = true)
    (a1 : PySem.W.nsIn K mainGlobals "joined" = some (some (.ref f1))) (l1 : K.lookup f1 = some ⟨oc1, od1, .func (PySem.W.fnOf "joined" "joined" (defArgs s_joined) (defBody s_joined) (defScope s_joined) .none kV1 dc1 pm1 an1 cd1 ct1), sl1⟩) (c1 : PySem.W.codeIn K cd1 "joined" = true) (k1 : PySem.W.keepIn K (.ref f1) = true)
    (a2 : PySem.W.nsIn K mainGlobals "reduced" = some (some (.ref f2))) (l2 : K.lookup f2 = some ⟨oc2, od2, .func (PySem.W.fnOf "reduced" "reduced" (defArgs s_reduced) (defBody s_reduced) (defScope s_reduced) .none kV2 dc2 pm2 an2 cd2 ct2), sl2⟩) (c2 : PySem.W.codeIn K cd2 "reduced" = true) (k2 : PySem.W.keepIn K (.ref f2) = true)
    (a3 : PySem.W.nsIn K mainGlobals "smallest" = some (some (.ref f3))) (l3 : K.lookup f3 = some ⟨oc3, od3, .func (PySem.W.fnOf "smallest" "smallest" (defArgs s_smallest) (defBody s_smallest) (defScope s_smallest) .none kV3 dc3 pm3 an3 cd3 ct3), sl3⟩) (c3 : PySem.W.codeIn K cd3 "smallest" = true) (k3 : PySem.W.keepIn K (.ref f3) = true)
    (a4 : PySem.W.nsIn K mainGlobals "swept" = some (some (.ref f4))) (l4 : K.lookup f4 = some ⟨oc4, od4, .func (PySem.W.fnOf "swept" "swept" (defArgs s_swept) (defBody s_swept) (defScope s_swept) .none kV4 dc4 pm4 an4 cd4 ct4), sl4⟩) (c4 : PySem.W.codeIn K cd4 "swept" = true) (k4 : PySem.W.keepIn K (.ref f4) = true)
    (a5 : PySem.W.nsIn K mainGlobals "rank" = some (some (.ref f5))) (l5 : K.lookup f5 = some ⟨oc5, od5, .func (PySem.W.fnOf "rank" "rank" (defArgs s_rank) (defBody s_rank) (defScope s_rank) .none kV5 dc5 pm5 an5 cd5 ct5), sl5⟩) (c5 : PySem.W.codeIn K cd5 "rank" = true) (k5 : PySem.W.keepIn K (.ref f5) = true)
    (a6 : PySem.W.nsIn K mainGlobals "rank_of_rests" = some (some (.ref f6))) (l6 : K.lookup f6 = some ⟨oc6, od6, .func (PySem.W.fnOf "rank_of_rests" "rank_of_rests" (defArgs s_rank_of_rests) (defBody s_rank_of_rests) (defScope s_rank_of_rests) .none kV6 dc6 pm6 an6 cd6 ct6), sl6⟩) (c6 : PySem.W.codeIn K cd6 "rank_of_rests" = true) (k6 : PySem.W.keepIn K (.ref f6) = true)
    (a7 : PySem.W.nsIn K mainGlobals "first_place" = some (some (.ref f7))) (l7 : K.lookup f7 = some ⟨oc7, od7, .func (PySem.W.fnOf "first_place" "first_place" (defArgs s_first_place) (defBody s_first_place) (defScope s_first_place) .none kV7 dc7 pm7 an7 cd7 ct7), sl7⟩) (c7 : PySem.W.codeIn K cd7 "first_place" = true) (k7 : PySem.W.keepIn K (.ref f7) = true)
    (a8 : PySem.W.nsIn K mainGlobals "rests_joined" = some (some (.ref f8))) (l8 : K.lookup f8 = some ⟨oc8, od8, .func (PySem.W.fnOf "rests_joined" "rests_joined" (defArgs s_rests_joined) (defBody s_rests_joined) (defScope s_rests_joined) .none kV8 dc8 pm8 an8 cd8 ct8), sl8⟩) (c8 : PySem.W.codeIn K cd8 "rests_joined" = true) (k8 : PySem.W.keepIn K (.ref f8) = true)
    (a9 : PySem.W.nsIn K mainGlobals "_law_cell" = some (some (.ref f9))) (l9 : K.lookup f9 = some ⟨oc9, od9, .func (PySem.W.fnOf "_law_cell" "_law_cell" (defArgs s_u_law_cell) (defBody s_u_law_cell) (defScope s_u_law_cell) .none kV9 dc9 pm9 an9 cd9 ct9), sl9⟩) (c9 : PySem.W.codeIn K cd9 "_law_cell" = true) (k9 : PySem.W.keepIn K (.ref f9) = true)
    (a10 : PySem.W.nsIn K mainGlobals "_law_parts" = some (some (.ref f10))) (l10 : K.lookup f10 = some ⟨oc10, od10, .func (PySem.W.fnOf "_law_parts" "_law_parts" (defArgs s_u_law_parts) (defBody s_u_law_parts) (defScope s_u_law_parts) .none kV10 dc10 pm10 an10 cd10 ct10), sl10⟩) (c10 : PySem.W.codeIn K cd10 "_law_parts" = true) (k10 : PySem.W.keepIn K (.ref f10) = true)
    (a11 : PySem.W.nsIn K mainGlobals "_law_is_integer" = some (some (.ref f11))) (l11 : K.lookup f11 = some ⟨oc11, od11, .func (PySem.W.fnOf "_law_is_integer" "_law_is_integer" (defArgs s_u_law_is_integer) (defBody s_u_law_is_integer) (defScope s_u_law_is_integer) .none kV11 dc11 pm11 an11 cd11 ct11), sl11⟩) (c11 : PySem.W.codeIn K cd11 "_law_is_integer" = true) (k11 : PySem.W.keepIn K (.ref f11) = true)
    (a12 : PySem.W.nsIn K mainGlobals "_law_divisor" = some (some (.ref f12))) (l12 : K.lookup f12 = some ⟨oc12, od12, .func (PySem.W.fnOf "_law_divisor" "_law_divisor" (defArgs s_u_law_divisor) (defBody s_u_law_divisor) (defScope s_u_law_divisor) .none kV12 dc12 pm12 an12 cd12 ct12), sl12⟩) (c12 : PySem.W.codeIn K cd12 "_law_divisor" = true) (k12 : PySem.W.keepIn K (.ref f12) = true)
    (a13 : PySem.W.nsIn K mainGlobals "_law_number" = some (some (.ref f13))) (l13 : K.lookup f13 = some ⟨oc13, od13, .func (PySem.W.fnOf "_law_number" "_law_number" (defArgs s_u_law_number) (defBody s_u_law_number) (defScope s_u_law_number) .none kV13 dc13 pm13 an13 cd13 ct13), sl13⟩) (c13 : PySem.W.codeIn K cd13 "_law_number" = true) (k13 : PySem.W.keepIn K (.ref f13) = true)
    (a14 : PySem.W.nsIn K mainGlobals "_law_plus" = some (some (.ref f14))) (l14 : K.lookup f14 = some ⟨oc14, od14, .func (PySem.W.fnOf "_law_plus" "_law_plus" (defArgs s_u_law_plus) (defBody s_u_law_plus) (defScope s_u_law_plus) .none kV14 dc14 pm14 an14 cd14 ct14), sl14⟩) (c14 : PySem.W.codeIn K cd14 "_law_plus" = true) (k14 : PySem.W.keepIn K (.ref f14) = true)
    (a15 : PySem.W.nsIn K mainGlobals "_law_times" = some (some (.ref f15))) (l15 : K.lookup f15 = some ⟨oc15, od15, .func (PySem.W.fnOf "_law_times" "_law_times" (defArgs s_u_law_times) (defBody s_u_law_times) (defScope s_u_law_times) .none kV15 dc15 pm15 an15 cd15 ct15), sl15⟩) (c15 : PySem.W.codeIn K cd15 "_law_times" = true) (k15 : PySem.W.keepIn K (.ref f15) = true)
    (a16 : PySem.W.nsIn K mainGlobals "_law_rows" = some (some (.ref f16))) (l16 : K.lookup f16 = some ⟨oc16, od16, .func (PySem.W.fnOf "_law_rows" "_law_rows" (defArgs s_u_law_rows) (defBody s_u_law_rows) (defScope s_u_law_rows) .none kV16 dc16 pm16 an16 cd16 ct16), sl16⟩) (c16 : PySem.W.codeIn K cd16 "_law_rows" = true) (k16 : PySem.W.keepIn K (.ref f16) = true)
    (a17 : PySem.W.nsIn K mainGlobals "_law_rank" = some (some (.ref f17))) (l17 : K.lookup f17 = some ⟨oc17, od17, .func (PySem.W.fnOf "_law_rank" "_law_rank" (defArgs s_u_law_rank) (defBody s_u_law_rank) (defScope s_u_law_rank) .none kV17 dc17 pm17 an17 cd17 ct17), sl17⟩) (c17 : PySem.W.codeIn K cd17 "_law_rank" = true) (k17 : PySem.W.keepIn K (.ref f17) = true)
    (a18 : PySem.W.nsIn K mainGlobals "law" = some (some (.ref f18))) (l18 : K.lookup f18 = some ⟨oc18, od18, .func (PySem.W.fnOf "law" "law" (defArgs s_law) (defBody s_law) (defScope s_law) .none kV18 dc18 pm18 an18 cd18 ct18), sl18⟩) (c18 : PySem.W.codeIn K cd18 "law" = true) (k18 : PySem.W.keepIn K (.ref f18) = true)
    (z_abs : PySem.W.nsIn K mainGlobals "abs" = some none)
    (z_bool : PySem.W.nsIn K mainGlobals "bool" = some none)
    (z_enumerate : PySem.W.nsIn K mainGlobals "enumerate" = some none)
    (z_int : PySem.W.nsIn K mainGlobals "int" = some none)
    (z_isinstance : PySem.W.nsIn K mainGlobals "isinstance" = some none)
    (z_len : PySem.W.nsIn K mainGlobals "len" = some none)
    (z_list : PySem.W.nsIn K mainGlobals "list" = some none)
    (z_min : PySem.W.nsIn K mainGlobals "min" = some none)
    (z_range : PySem.W.nsIn K mainGlobals "range" = some none)
    (z_tuple : PySem.W.nsIn K mainGlobals "tuple" = some none)
    (z_zip : PySem.W.nsIn K mainGlobals "zip" = some none)
    (i_gcd : PySem.W.nsIn K mainGlobals "gcd" = some (some (.builtin "math.gcd")))
    {t_PRIME : Tok} (c_PRIME : PySem.W.nsIn K mainGlobals "PRIME" = some (some (.int 2305843009213693951 t_PRIME)))
    : ∃ fd : FuncData, (∀ (s : Shared) (v : Value), BindsTo s fd ⟨[v], []⟩ [("script", v)]) ∧ ∀ base : Heap, K.In base → base.Ns mainGlobals mg → FnOk l.prog w K mg base CX0 5 fa fd ["script"] (spD K R_law) := by
  have e2 : f18 = fa := by
    have e := hfa.symm.trans (PySem.W.mg_of X G a18)
    cases e
    rfl
  subst e2
  have F0 := fun_mk (st := s_lowest) l0 c0 k0
  have F1 := fun_mk (st := s_joined) l1 c1 k1
  have F2 := fun_mk (st := s_reduced) l2 c2 k2
  have F3 := fun_mk (st := s_smallest) l3 c3 k3
  have F4 := fun_mk (st := s_swept) l4 c4 k4
  have F5 := fun_mk (st := s_rank) l5 c5 k5
  have F6 := fun_mk (st := s_rank_of_rests) l6 c6 k6
  have F7 := fun_mk (st := s_first_place) l7 c7 k7
  have F8 := fun_mk (st := s_rests_joined) l8 c8 k8
  have F9 := fun_mk (st := s_u_law_cell) l9 c9 k9
  have F10 := fun_mk (st := s_u_law_parts) l10 c10 k10
  have F11 := fun_mk (st := s_u_law_is_integer) l11 c11 k11
  have F12 := fun_mk (st := s_u_law_divisor) l12 c12 k12
  have F13 := fun_mk (st := s_u_law_number) l13 c13 k13
  have F14 := fun_mk (st := s_u_law_plus) l14 c14 k14
  have F15 := fun_mk (st := s_u_law_times) l15 c15 k15
  have F16 := fun_mk (st := s_u_law_rows) l16 c16 k16
  have F17 := fun_mk (st := s_u_law_rank) l17 c17 k17
  have F18 := fun_mk (st := s_law) l18 c18 k18
  let T : Txt K mg := {
    f_lowest := f0, fd_lowest := _, F_lowest := F0, g_lowest := PySem.W.mg_of X G a0,
    b_lowest := F0.binds (ps := ["integers"]) fun _ _ _ _ _ _ us hl => match us, hl with | [_], _ => rfl,
    f_joined := f1, fd_joined := _, F_joined := F1, g_joined := PySem.W.mg_of X G a1,
    b_joined := F1.binds (ps := ["row", "factor", "leader", "pivot"]) fun _ _ _ _ _ _ us hl => match us, hl with | [_, _, _, _], _ => rfl,
    f_reduced := f2, fd_reduced := _, F_reduced := F2, g_reduced := PySem.W.mg_of X G a2,
    b_reduced := F2.binds (ps := ["rows", "width"]) fun _ _ _ _ _ _ us hl => match us, hl with | [_, _], _ => rfl,
    f_smallest := f3, fd_smallest := _, F_smallest := F3, g_smallest := PySem.W.mg_of X G a3,
    b_smallest := F3.binds (ps := ["cells", "spent", "column"]) fun _ _ _ _ _ _ us hl => match us, hl with | [_, _, _], _ => rfl,
    f_swept := f4, fd_swept := _, F_swept := F4, g_swept := PySem.W.mg_of X G a4,
    b_swept := F4.binds (ps := ["cells", "at", "column"]) fun _ _ _ _ _ _ us hl => match us, hl with | [_, _, _], _ => rfl,
    f_rank := f5, fd_rank := _, F_rank := F5, g_rank := PySem.W.mg_of X G a5,
    b_rank := F5.binds (ps := ["rows"]) fun _ _ _ _ _ _ us hl => match us, hl with | [_], _ => rfl,
    f_rank_of_rests := f6, fd_rank_of_rests := _, F_rank_of_rests := F6, g_rank_of_rests := PySem.W.mg_of X G a6,
    b_rank_of_rests := F6.binds (ps := ["rows"]) fun _ _ _ _ _ _ us hl => match us, hl with | [_], _ => rfl,
    f_first_place := f7, fd_first_place := _, F_first_place := F7, g_first_place := PySem.W.mg_of X G a7,
    b_first_place := F7.binds (ps := ["row"]) fun _ _ _ _ _ _ us hl => match us, hl with | [_], _ => rfl,
    f_rests_joined := f8, fd_rests_joined := _, F_rests_joined := F8, g_rests_joined := PySem.W.mg_of X G a8,
    b_rests_joined := F8.binds (ps := ["row", "leader", "column"]) fun _ _ _ _ _ _ us hl => match us, hl with | [_, _, _], _ => rfl,
    f_u_law_cell := f9, fd_u_law_cell := _, F_u_law_cell := F9, g_u_law_cell := PySem.W.mg_of X G a9,
    b_u_law_cell := F9.binds (ps := ["script", "k"]) fun _ _ _ _ _ _ us hl => match us, hl with | [_, _], _ => rfl,
    f_u_law_parts := f10, fd_u_law_parts := _, F_u_law_parts := F10, g_u_law_parts := PySem.W.mg_of X G a10,
    b_u_law_parts := F10.binds (ps := ["cell", "sizes"]) fun _ _ _ _ _ _ us hl => match us, hl with | [_, _], _ => rfl,
    f_u_law_is_integer := f11, fd_u_law_is_integer := _, F_u_law_is_integer := F11, g_u_law_is_integer := PySem.W.mg_of X G a11,
    b_u_law_is_integer := F11.binds (ps := ["actual"]) fun _ _ _ _ _ _ us hl => match us, hl with | [_], _ => rfl,
    f_u_law_divisor := f12, fd_u_law_divisor := _, F_u_law_divisor := F12, g_u_law_divisor := PySem.W.mg_of X G a12,
    b_u_law_divisor := F12.binds (ps := ["a", "b"]) fun _ _ _ _ _ _ us hl => match us, hl with | [_, _], _ => rfl,
    f_u_law_number := f13, fd_u_law_number := _, F_u_law_number := F13, g_u_law_number := PySem.W.mg_of X G a13,
    b_u_law_number := F13.binds (ps := ["n", "d"]) fun _ _ _ _ _ _ us hl => match us, hl with | [_, _], _ => rfl,
    f_u_law_plus := f14, fd_u_law_plus := _, F_u_law_plus := F14, g_u_law_plus := PySem.W.mg_of X G a14,
    b_u_law_plus := F14.binds (ps := ["a", "b"]) fun _ _ _ _ _ _ us hl => match us, hl with | [_, _], _ => rfl,
    f_u_law_times := f15, fd_u_law_times := _, F_u_law_times := F15, g_u_law_times := PySem.W.mg_of X G a15,
    b_u_law_times := F15.binds (ps := ["a", "b"]) fun _ _ _ _ _ _ us hl => match us, hl with | [_, _], _ => rfl,
    f_u_law_rows := f16, fd_u_law_rows := _, F_u_law_rows := F16, g_u_law_rows := PySem.W.mg_of X G a16,
    b_u_law_rows := F16.binds (ps := ["script", "width"]) fun _ _ _ _ _ _ us hl => match us, hl with | [_, _], _ => rfl,
    f_u_law_rank := f17, fd_u_law_rank := _, F_u_law_rank := F17, g_u_law_rank := PySem.W.mg_of X G a17,
    b_u_law_rank := F17.binds (ps := ["rows", "width"]) fun _ _ _ _ _ _ us hl => match us, hl with | [_, _], _ => rfl,
    f_law := f18, fd_law := _, F_law := F18, g_law := PySem.W.mg_of X G a18,
    z_abs := PySem.W.mg_none_of X G z_abs,
    z_bool := PySem.W.mg_none_of X G z_bool,
    z_enumerate := PySem.W.mg_none_of X G z_enumerate,
    z_int := PySem.W.mg_none_of X G z_int,
    z_isinstance := PySem.W.mg_none_of X G z_isinstance,
    z_len := PySem.W.mg_none_of X G z_len,
    z_list := PySem.W.mg_none_of X G z_list,
    z_min := PySem.W.mg_none_of X G z_min,
    z_range := PySem.W.mg_none_of X G z_range,
    z_tuple := PySem.W.mg_none_of X G z_tuple,
    z_zip := PySem.W.mg_none_of X G z_zip,
    i_gcd := PySem.W.mg_of X G i_gcd,
    t_PRIME := t_PRIME, c_PRIME := PySem.W.mg_of X G c_PRIME,
  }
  exact ⟨PySem.W.fnOf "law" "law" (defArgs s_law) (defBody s_law) (defScope s_law) .none kV18 dc18 pm18 an18 cd18 ct18, fun s v => .of_eq rfl, fun base _ _ => ok_law T⟩
end DX
open PySem PySem.W PyProof.Rows
set_option maxHeartbeats 0 in
theorem PySem.Challenge.cw_loadorloose_k02_ranks_holds : PySem.Challenge.rw_loadorloose_k02_ranks.Holds := by
  w_on; o_law; k_head; (case hw => w_witness2)
  k_fill
  refine L2.walk_of (l := PySem.Challenge.rw_loadorloose_k02_ranks) (n := 63) (k := 5) (x := "script") (CX := fun _ => L2.CX0) (sp := fun w => DX.spD _ DX.R_law) rfl (by decide) rfl ⟨rfl, by decide, by decide⟩ (fun w h Y => PySem.W.kIn_of Y) ?F (fun _ _ a ns hl _ hS => DX.law_end hl hS) (fun _ _ _ _ _ h => h)
  case F =>
    intro w mg fa h KX G hmg
    refine' DX.all_mk KX G hmg ?a0 ?l0 ?c0 ?k0 ?a1 ?l1 ?c1 ?k1 ?a2 ?l2 ?c2 ?k2 ?a3 ?l3 ?c3 ?k3 ?a4 ?l4 ?c4 ?k4 ?a5 ?l5 ?c5 ?k5 ?a6 ?l6 ?c6 ?k6 ?a7 ?l7 ?c7 ?k7 ?a8 ?l8 ?c8 ?k8 ?a9 ?l9 ?c9 ?k9 ?a10 ?l10 ?c10 ?k10 ?a11 ?l11 ?c11 ?k11 ?a12 ?l12 ?c12 ?k12 ?a13 ?l13 ?c13 ?k13 ?a14 ?l14 ?c14 ?k14 ?a15 ?l15 ?c15 ?k15 ?a16 ?l16 ?c16 ?k16 ?a17 ?l17 ?c17 ?k17 ?a18 ?l18 ?c18 ?k18 ?z_abs ?z_bool ?z_enumerate ?z_int ?z_isinstance ?z_len ?z_list ?z_min ?z_range ?z_tuple ?z_zip ?i_gcd ?c_PRIME
    (case a0 => k_is); (case l0 => k_is); (case c0 => k_is); (case k0 => k_is); (case a1 => k_is); (case l1 => k_is); (case c1 => k_is); (case k1 => k_is); (case a2 => k_is); (case l2 => k_is); (case c2 => k_is); (case k2 => k_is); (case a3 => k_is); (case l3 => k_is); (case c3 => k_is); (case k3 => k_is); (case a4 => k_is); (case l4 => k_is); (case c4 => k_is); (case k4 => k_is); (case a5 => k_is); (case l5 => k_is); (case c5 => k_is); (case k5 => k_is); (case a6 => k_is); (case l6 => k_is); (case c6 => k_is); (case k6 => k_is); (case a7 => k_is); (case l7 => k_is); (case c7 => k_is); (case k7 => k_is); (case a8 => k_is); (case l8 => k_is); (case c8 => k_is); (case k8 => k_is); (case a9 => k_is); (case l9 => k_is); (case c9 => k_is); (case k9 => k_is); (case a10 => k_is); (case l10 => k_is); (case c10 => k_is); (case k10 => k_is); (case a11 => k_is); (case l11 => k_is); (case c11 => k_is); (case k11 => k_is); (case a12 => k_is); (case l12 => k_is); (case c12 => k_is); (case k12 => k_is); (case a13 => k_is); (case l13 => k_is); (case c13 => k_is); (case k13 => k_is); (case a14 => k_is); (case l14 => k_is); (case c14 => k_is); (case k14 => k_is); (case a15 => k_is); (case l15 => k_is); (case c15 => k_is); (case k15 => k_is); (case a16 => k_is); (case l16 => k_is); (case c16 => k_is); (case k16 => k_is); (case a17 => k_is); (case l17 => k_is); (case c17 => k_is); (case k17 => k_is); (case a18 => k_is); (case l18 => k_is); (case c18 => k_is); (case k18 => k_is); (case z_abs => k_is); (case z_bool => k_is); (case z_enumerate => k_is); (case z_int => k_is); (case z_isinstance => k_is); (case z_len => k_is); (case z_list => k_is); (case z_min => k_is); (case z_range => k_is); (case z_tuple => k_is); (case z_zip => k_is); (case i_gcd => k_is); (case c_PRIME => k_is)

