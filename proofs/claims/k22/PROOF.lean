import PyProof.Rows.All
import Wide.All
import OpenK.AllK
import Wide.FinOn
import HandS.ForMost
import HandS.Wide
import HandS.Gcd
import HandS.IsInst
import HandS.TupAny
import HandS.Conv
import HandS.Style
import HandS.SetFor
import HandS.Strs
import HandS.Zip
import KE.GoesMore
import HandS.SortInts
import PySem.Challenge.RW_loadorloose_k22_rigid_motions
set_option Elab.async false
set_option linter.all false
set_option maxRecDepth 100000
set_option maxHeartbeats 4000000
namespace L2
open PySem
abbrev D := PyData
theorem sqT_up {K : PySem.W.Frag} {H H' : Hp} {a : Addr} {xs : List V} (e : Same H H') (h : SqT K H a xs) : SqT K H' a xs := by
  rcases h with (h | ⟨o, h⟩) | h
  · exact .inl (.inl (e _ _ h))
  · exact .inl (.inr ⟨o, e _ _ h⟩)
  · exact .inr h
theorem rd_up {H H' : Hp} {a : Addr} {u : HO} (e : Same H H') (h : Rd H a u) : Rd H' a u := by
  rcases h with h | ⟨o, h⟩
  · exact .inl (e _ _ h)
  · exact .inr ⟨o, e _ _ h⟩
mutual
inductive Dq (K : PySem.W.Frag) (H : Hp) : V → D → Prop
  | non : Dq K H .non .none
  | bl (b : Bool) : Dq K H (.bl b) (.bool b)
  | int (i : Int) : Dq K H (.int i) (.int i)
  | str (x : Str) : Dq K H (.str x) (.str x)
  | lst {a : Addr} {xs : List V} {ds : List D} : SqL K H a xs → DqAll K H xs ds → Dq K H (.ref a) (.list ds)
  | tup {a : Addr} {xs : List V} {ds : List D} : SqT K H a xs → DqAll K H xs ds → Dq K H (.ref a) (.tuple ds)
  | dct {a : Addr} {xs : List (Key × V)} {ds : List (D × D)} : Rd H a (.dK xs) → DqKv K H xs ds → Dq K H (.ref a) (.dict ds)
inductive DqAll (K : PySem.W.Frag) (H : Hp) : List V → List D → Prop
  | nil : DqAll K H [] []
  | cons {v : V} {vs : List V} {d : D} {ds : List D} : Dq K H v d → DqAll K H vs ds → DqAll K H (v :: vs) (d :: ds)
inductive DqKv (K : PySem.W.Frag) (H : Hp) : List (Key × V) → List (D × D) → Prop
  | nil : DqKv K H [] []
  | cons {k : Key} {v : V} {vs : List (Key × V)} {e d : D} {ds : List (D × D)} : Dq K H (kV k) e → Dq K H v d → DqKv K H vs ds → DqKv K H ((k, v) :: vs) ((e, d) :: ds)
end
section
variable {K : PySem.W.Frag} {H H' : Hp}
mutual
theorem Dq.up (e : Same H H') : ∀ (d : D) (v : V), Dq K H v d → Dq K H' v d
  | .none, _, h => by cases h; exact .non
  | .bool b, _, h => by cases h; exact .bl b
  | .int i, _, h => by cases h; exact .int i
  | .str x, _, h => by cases h; exact .str x
  | .list ds, _, h => by
    cases h with
    | lst hs ha => exact .lst (e.seq hs) (DqAll.up e ds _ ha)
  | .tuple ds, _, h => by
    cases h with
    | tup hs ha => exact .tup (sqT_up e hs) (DqAll.up e ds _ ha)
  | .dict ds, _, h => by
    cases h with
    | dct hs ha => exact .dct (rd_up e hs) (DqKv.up e ds _ ha)
theorem DqAll.up (e : Same H H') : ∀ (ds : List D) (vs : List V), DqAll K H vs ds → DqAll K H' vs ds
  | [], _, h => by cases h; exact .nil
  | d :: ds, _, h => by
    cases h with
    | cons h1 h2 => exact .cons (Dq.up e d _ h1) (DqAll.up e ds _ h2)
theorem DqKv.up (e : Same H H') : ∀ (ds : List (D × D)) (vs : List (Key × V)), DqKv K H vs ds → DqKv K H' vs ds
  | [], _, h => by cases h; exact .nil
  | (f, d) :: ds, _, h => by
    cases h with
    | cons h1 h2 h3 => exact .cons (Dq.up e f _ h1) (Dq.up e d _ h2) (DqKv.up e ds _ h3)
end
mutual
theorem Dq.dp : ∀ (d : D) (v : V), Dq K H v d → d.canLay0 = true → Dp K H v d
  | .none, _, h, _ => by cases h; exact .non
  | .bool b, _, h, _ => by cases h; exact .bl b
  | .int i, _, h, _ => by cases h; exact .int i
  | .str x, _, h, _ => by cases h; exact .str x
  | .list ds, _, h, c => by
    simp only [PyData.canLay0] at c
    cases h with
    | lst hs ha => exact .lst hs (DqAll.dp ds _ ha c)
  | .tuple ds, _, h, c => by
    simp only [PyData.canLay0] at c
    cases h with
    | tup hs ha => exact .tup hs (DqAll.dp ds _ ha c)
  | .dict ds, _, h, c => by simp only [PyData.canLay0] at c; cases c
theorem DqAll.dp : ∀ (ds : List D) (vs : List V), DqAll K H vs ds → PyData.canLayAll0 ds = true → DpAll K H vs ds
  | [], _, h, _ => by cases h; exact .nil
  | d :: ds, _, h, c => by
    simp only [PyData.canLayAll0, Bool.and_eq_true] at c
    cases h with
    | cons h1 h2 => exact .cons (Dq.dp d _ h1 c.1) (DqAll.dp ds _ h2 c.2)
end
theorem DqKv.len : ∀ {vs : List (Key × V)} {ds : List (D × D)}, DqKv K H vs ds → vs.length = ds.length
  | _, [], h => by cases h; rfl
  | _, d :: ds, h => by
    cases h with
    | cons h1 h2 h3 => simp only [List.length_cons]; rw [DqKv.len h3]
theorem DqAll.len : ∀ {vs : List V} {ds : List D}, DqAll K H vs ds → vs.length = ds.length
  | _, [], h => by cases h; rfl
  | _, d :: ds, h => by
    cases h with
    | cons h1 h2 => simp only [List.length_cons]; rw [DqAll.len h2]
theorem DqAll.get : ∀ {vs : List V} {ds : List D} {i : Nat} {d : D}, DqAll K H vs ds → ds[i]? = some d → ∃ v, vs[i]? = some v ∧ Dq K H v d
  | _, [], _, _, _, e => by simp at e
  | _, x :: ds, 0, d, h, e => by
    cases h with
    | cons h1 h2 => simp at e; subst e; exact ⟨_, rfl, h1⟩
  | _, x :: ds, i + 1, d, h, e => by
    cases h with
    | cons h1 h2 =>
      obtain ⟨v, a, b⟩ := DqAll.get (i := i) h2 (by simpa using e)
      exact ⟨v, by simpa using a, b⟩
theorem DqAll.getV : ∀ {vs : List V} {ds : List D} {i : Nat} {v : V}, DqAll K H vs ds → vs[i]? = some v → ∃ d, ds[i]? = some d ∧ Dq K H v d
  | [], _, _, _, _, e => by simp at e
  | x :: vs, _, 0, d, h, e => by
    cases h with
    | cons h1 h2 => simp at e; subst e; exact ⟨_, rfl, h1⟩
  | x :: vs, _, i + 1, d, h, e => by
    cases h with
    | cons h1 h2 =>
      obtain ⟨v, a, b⟩ := DqAll.getV (i := i) h2 (by simpa using e)
      exact ⟨v, by simpa using a, b⟩
theorem DqAll.app : ∀ {vs ws : List V} {ds es : List D}, DqAll K H vs ds → DqAll K H ws es → DqAll K H (vs ++ ws) (ds ++ es)
  | _, _, [], _, h, h' => by cases h; exact h'
  | _, _, d :: ds, _, h, h' => by
    cases h with
    | cons h1 h2 => exact .cons h1 (DqAll.app h2 h')
theorem DqAll.take : ∀ (n : Nat) {vs : List V} {ds : List D}, DqAll K H vs ds → DqAll K H (vs.take n) (ds.take n)
  | 0, _, _, _ => .nil
  | n + 1, _, [], h => by cases h; exact .nil
  | n + 1, _, d :: ds, h => by
    cases h with
    | cons h1 h2 => exact .cons h1 (DqAll.take n h2)
theorem DqAll.drop : ∀ (n : Nat) {vs : List V} {ds : List D}, DqAll K H vs ds → DqAll K H (vs.drop n) (ds.drop n)
  | 0, _, _, h => h
  | n + 1, _, [], h => by cases h; exact .nil
  | n + 1, _, d :: ds, h => by
    cases h with
    | cons h1 h2 => exact DqAll.drop n h2
theorem DqAll.set {v : V} {d : D} (q : Dq K H v d) : ∀ (n : Nat) {vs : List V} {ds : List D}, DqAll K H vs ds → DqAll K H (vs.set n v) (ds.set n d)
  | _, _, [], h => by cases h; exact .nil
  | 0, _, e :: ds, h => by
    cases h with
    | cons h1 h2 => exact .cons q h2
  | n + 1, _, e :: ds, h => by
    cases h with
    | cons h1 h2 => exact .cons h1 (DqAll.set q n h2)
/-- ints -/
theorem DqAll.ints : ∀ {ns : List Int} {vs : List V}, DqAll K H vs (ns.map PyData.int) → vs = ns.map V.int
  | [], _, h => by cases h; rfl
  | n :: ns, _, h => by
    cases h with
    | cons h1 h2 => cases h1; rw [DqAll.ints h2]; rfl
theorem DqAll.ofInts : ∀ {ns : List Int}, DqAll K H (ns.map V.int) (ns.map PyData.int)
  | [] => .nil
  | n :: ns => .cons (.int n) DqAll.ofInts
theorem DqAll.bools : ∀ {ns : List Bool} {vs : List V}, DqAll K H vs (ns.map PyData.bool) → vs = ns.map V.bl
  | [], _, h => by cases h; rfl
  | n :: ns, _, h => by
    cases h with
    | cons h1 h2 => cases h1; rw [DqAll.bools h2]; rfl
end

section
variable {K : PySem.W.Frag}
theorem Dq.int_inv {H : Hp} {v : V} {i : Int} (h : Dq K H v (.int i)) : v = .int i := by cases h; rfl
theorem Dq.bool_inv {H : Hp} {v : V} {b : Bool} (h : Dq K H v (.bool b)) : v = .bl b := by cases h; rfl
end
end L2
namespace DX
open PySem L2

/-! ### the local names -/
inductive OD where
  | l (ds : List D)
  | m (es : List (D × D))
inductive SV where
  | no
  | val (d : D)
  | own (x : OD)
def OwnRep (K : PySem.W.Frag) (B : Hp) (o : HO) : OD → Prop
  | .l ds => ∃ vs, o = .lst vs ∧ DqAll K B vs ds
  | .m es => ∃ kvs, o = .dK kvs ∧ DqKv K B kvs es
theorem OwnRep.up {K : PySem.W.Frag} {B B' : Hp} {o : HO} (e : Same B B') : ∀ {x : OD}, OwnRep K B o x → OwnRep K B' o x
  | .l ds, ⟨vs, a, b⟩ => ⟨vs, a, DqAll.up e ds _ b⟩
  | .m es, ⟨vs, a, b⟩ => ⟨vs, a, DqKv.up e es _ b⟩

structure Hist (B0 H0 B H : Hp) : Prop where
  bb : Same B0 B
  bh : Same B H
  hh : Same H0 H
  fr : ∀ a, H0 a ≠ none → B0 a = none → B a = none

def SlotOk (K : PySem.W.Frag) (B H H0 : Hp) (o : Option V) : SV → Prop
  | .no => True
  | .val d => ∃ v, o = some v ∧ Dq K B v d
  | .own x => ∃ p u, o = some (.ref p) ∧ H p = some u ∧ B p = none ∧ H0 p = none ∧ OwnRep K B u x

structure Sd (K : PySem.W.Frag) (B0 H0 B H : Hp) (σ : L2.St) (δ : List SV) : Prop where
  hist : Hist B0 H0 B H
  len : σ.length = δ.length
  ok : ∀ (i : Nat) (s : SV), δ[i]? = some s → ∃ o, σ[i]? = some o ∧ SlotOk K B H H0 o s
  apart : ∀ (i j : Nat) (p : Addr) (ds es : OD), i ≠ j → δ[i]? = some (.own ds) → δ[j]? = some (.own es) → σ[i]? = some (some (.ref p)) → σ[j]? ≠ some (some (.ref p))

section
variable {K : PySem.W.Frag} {B0 H0 B H B' H' : Hp} {σ : L2.St} {δ : List SV}

/-- a step that leaves what is there -/
structure Stp (B H B' H' : Hp) : Prop where
  bb : Same B B'
  bh : Same B' H'
  hh : Same H H'
  fr : ∀ a, H a ≠ none → B a = none → B' a = none
theorem Stp.refl (h : Same B H) : Stp B H B H := ⟨Same.refl _, h, Same.refl _, fun _ _ z => z⟩
theorem ne_none_of {a : Addr} (e : Same H H') (h : H a ≠ none) : H' a ≠ none := by
  cases q : H a with
  | none => exact absurd q h
  | some o => rw [e a o q]; exact fun z => nomatch z
theorem Stp.trans {B1 H1 B2 H2 : Hp} (a : Stp B H B1 H1) (b : Stp B1 H1 B2 H2) : Stp B H B2 H2 :=
  ⟨a.bb.trans b.bb, b.bh, a.hh.trans b.hh, fun x h z => b.fr x (ne_none_of a.hh h) (a.fr x h z)⟩
theorem Stp.hist (s : Stp B H B' H') (h : Hist B0 H0 B H) : Hist B0 H0 B' H' :=
  ⟨h.bb.trans s.bb, s.bh, h.hh.trans s.hh, fun x q z => s.fr x (ne_none_of h.hh q) (h.fr x q z)⟩
theorem SlotOk.step {o : Option V} {x : SV} (s : Stp B H B' H') (h : SlotOk K B H H0 o x) : SlotOk K B' H' H0 o x := by
  cases x with
  | no => exact True.intro
  | val d => obtain ⟨v, e, q⟩ := h; exact ⟨v, e, Dq.up s.bb _ _ q⟩
  | own ds =>
    obtain ⟨p, vs, e, hp, bp, h0, q⟩ := h
    exact ⟨p, vs, e, s.hh _ _ hp, s.fr p (by rw [hp]; exact fun z => nomatch z) bp, h0, q.up s.bb⟩
theorem Sd.step (S : Sd K B0 H0 B H σ δ) (s : Stp B H B' H') : Sd K B0 H0 B' H' σ δ :=
  ⟨s.hist S.hist, S.len, fun i x e => by
    obtain ⟨o, a, q⟩ := S.ok i x e
    exact ⟨o, a, q.step s⟩, S.apart⟩
theorem same_new {p : Addr} {o : HO} (h : H p = none) : Same H (upd H p o) := fun b x e => by
  rw [upd_ne (ne_of_none e h)]; exact e
/-- a new object, known to both -/
theorem Stp.new {p : Addr} {o : HO} (bh : Same B H) (h : H p = none) : Stp B H (upd B p o) (upd H p o) := by
  have hb : B p = none := bh.free h
  refine ⟨same_new hb, fun a u e => ?_, same_new h, fun a q z => ?_⟩
  · by_cases ha : a = p
    · subst ha; rw [upd_same] at e ⊢; exact e
    · rw [upd_ne ha] at e ⊢; exact bh _ _ e
  · have ha : a ≠ p := fun e => by subst e; exact q h
    rw [upd_ne ha]; exact z
/-- a new object, owned -/
theorem Stp.newOwn {p : Addr} {o : HO} (bh : Same B H) (h : H p = none) : Stp B H B (upd H p o) :=
  ⟨Same.refl _, fun a u e => same_new h _ _ (bh _ _ e), same_new h, fun _ _ z => z⟩
/-- an owned one is made known -/
theorem Stp.know {p : Addr} {o : HO} (bh : Same B H) (hb : B p = none) (hp : H p = some o) : Same B (upd B p o) ∧ Same (upd B p o) H := by
  refine ⟨same_new hb, fun a u e => ?_⟩
  by_cases ha : a = p
  · subst ha; rw [upd_same] at e; rw [← e]; exact hp
  · rw [upd_ne ha] at e; exact bh _ _ e
theorem Sd.slot (S : Sd K B0 H0 B H σ δ) {i : Nat} {d : D} (e : δ[i]? = some (.val d)) : ∃ v, σ[i]? = some (some v) ∧ Dq K B v d := by
  obtain ⟨o, a, v, rfl, q⟩ := S.ok i _ e
  exact ⟨v, a, q⟩
theorem Sd.slotObj (S : Sd K B0 H0 B H σ δ) {i : Nat} {x : OD} (e : δ[i]? = some (.own x)) : ∃ p u, σ[i]? = some (some (.ref p)) ∧ H p = some u ∧ B p = none ∧ H0 p = none ∧ OwnRep K B u x := by
  obtain ⟨o, a, p, vs, rfl, q⟩ := S.ok i _ e
  exact ⟨p, vs, a, q⟩
theorem Sd.slotOwn (S : Sd K B0 H0 B H σ δ) {i : Nat} {ds : List D} (e : δ[i]? = some (.own (.l ds))) : ∃ p vs, σ[i]? = some (some (.ref p)) ∧ H p = some (.lst vs) ∧ B p = none ∧ H0 p = none ∧ DqAll K B vs ds := by
  obtain ⟨p, u, a, hp, b, h0, vs, rfl, q⟩ := S.slotObj e
  exact ⟨p, vs, a, hp, b, h0, q⟩
theorem Sd.slotMap (S : Sd K B0 H0 B H σ δ) {i : Nat} {es : List (D × D)} (e : δ[i]? = some (.own (.m es))) : ∃ p vs, σ[i]? = some (some (.ref p)) ∧ H p = some (.dK vs) ∧ B p = none ∧ H0 p = none ∧ DqKv K B vs es := by
  obtain ⟨p, u, a, hp, b, h0, vs, rfl, q⟩ := S.slotObj e
  exact ⟨p, vs, a, hp, b, h0, q⟩
theorem get_set {α : Type} {xs : List α} {i j : Nat} {x y : α} (h : (xs.set i x)[j]? = some y) : (i = j ∧ x = y) ∨ (i ≠ j ∧ xs[j]? = some y) := by
  by_cases e : i = j
  · subst e
    have hl : i < xs.length := by
      have := (List.getElem?_eq_some_iff.mp h).1
      simpa using this
    rw [List.getElem?_set_self hl] at h
    exact .inl ⟨rfl, Option.some.inj h⟩
  · rw [List.getElem?_set_ne e] at h
    exact .inr ⟨e, h⟩
theorem set_some {α : Type} {xs : List α} {i j : Nat} {x : α} (h : j < xs.length) : ∃ y, (xs.set i x)[j]? = some y ∧ ((i = j ∧ y = x) ∨ (i ≠ j ∧ xs[j]? = some y)) := by
  have h' : j < (xs.set i x).length := by rw [List.length_set]; exact h
  refine ⟨_, List.getElem?_eq_getElem h', ?_⟩
  rcases get_set (List.getElem?_eq_getElem h') with ⟨a, b⟩ | ⟨a, b⟩
  · exact .inl ⟨a, b.symm⟩
  · exact .inr ⟨a, b⟩
/-- a slot is stored -/
theorem Sd.set (S : Sd K B0 H0 B H σ δ) {i : Nat} {o : Option V} {x : SV} (h : SlotOk K B H H0 o x)
    (ap : ∀ ds, x = .own ds → ∀ j p es, i ≠ j → o = some (.ref p) → δ[j]? = some (.own es) → σ[j]? ≠ some (some (.ref p))) : Sd K B0 H0 B H (σ.set i o) (δ.set i x) := by
  refine ⟨S.hist, by rw [List.length_set, List.length_set]; exact S.len, fun j s e => ?_, fun j k p ds es n e1 e2 e3 e4 => ?_⟩
  · have hj : j < σ.length := by
      have := (List.getElem?_eq_some_iff.mp e).1
      rw [List.length_set] at this
      rw [S.len]; exact this
    obtain ⟨y, hy, c⟩ := set_some (xs := σ) (i := i) (x := o) hj
    rcases get_set e with ⟨a, b⟩ | ⟨a, b⟩
    · subst b
      rcases c with ⟨_, c⟩ | ⟨c, _⟩
      · subst c; exact ⟨_, hy, h⟩
      · exact absurd a c
    · rcases c with ⟨c, _⟩ | ⟨_, c⟩
      · exact absurd c a
      · obtain ⟨o', q, w⟩ := S.ok j s b
        rw [q] at c; cases c
        exact ⟨_, hy, w⟩
  · rcases get_set e1 with ⟨a, b⟩ | ⟨a, b⟩
    · rcases get_set e2 with ⟨a', b'⟩ | ⟨a', b'⟩
      · exact n (a.symm.trans a')
      · rcases get_set e3 with ⟨c, d⟩ | ⟨c, d⟩
        · rcases get_set e4 with ⟨c', d'⟩ | ⟨c', d'⟩
          · exact a' c'
          · exact ap ds b k p es a' d b' d'
        · exact absurd a c
    · rcases get_set e2 with ⟨a', b'⟩ | ⟨a', b'⟩
      · rcases get_set e4 with ⟨c, d⟩ | ⟨c, d⟩
        · rcases get_set e3 with ⟨c', d'⟩ | ⟨c', d'⟩
          · exact a c'
          · exact ap es b' j p ds a d b d'
        · exact absurd a' c
      · rcases get_set e3 with ⟨c, d⟩ | ⟨c, d⟩
        · exact absurd c a
        · rcases get_set e4 with ⟨c', d'⟩ | ⟨c', d'⟩
          · exact absurd c' a'
          · exact S.apart j k p ds es n b b' d d'
theorem Sd.setVal (S : Sd K B0 H0 B H σ δ) {i : Nat} {v : V} {d : D} (h : Dq K B v d) : Sd K B0 H0 B H (σ.set i (some v)) (δ.set i (.val d)) :=
  S.set ⟨v, rfl, h⟩ fun _ z => nomatch z
/-- a slot is forgotten -/
theorem Sd.forget (S : Sd K B0 H0 B H σ δ) {i : Nat} {o : Option V} : Sd K B0 H0 B H (σ.set i o) (δ.set i .no) :=
  S.set True.intro fun _ z => nomatch z
/-- another past -/
theorem Sd.past {B1 : Hp} (S : Sd K B0 H0 B H σ δ) (h0 : Same B0 B1) (h : Same B1 B) : Sd K B1 H0 B H σ δ :=
  ⟨⟨h, S.hist.bh, S.hist.hh, fun a q z => S.hist.fr a q (h0.free z)⟩, S.len, S.ok, S.apart⟩
theorem Hist.back {B1 H1 : Hp} (S : Hist B1 H0 B H) (h0 : Hist B0 H0 B1 H1) : Hist B0 H0 B H :=
  ⟨h0.bb.trans S.bb, S.bh, S.hh, fun a q z => S.fr a q (h0.fr a q z)⟩
theorem Sd.back {B1 H1 : Hp} (S : Sd K B1 H0 B H σ δ) (h0 : Hist B0 H0 B1 H1) : Sd K B0 H0 B H σ δ :=
  ⟨S.hist.back h0, S.len, S.ok, S.apart⟩
end

/-! ### what an expression gives -/
section
variable (K : PySem.W.Frag)
def ED (te : TE) (δ : List SV) (d : D) : Prop := ∀ (B0 H0 B H : Hp) (σ : L2.St) (Q : VK), Sd K B0 H0 B H σ δ → (∀ v B' H', Stp B H B' H' → Dq K B' v d → Q v H') → te σ H Q
def ET (tt : TT) (δ : List SV) (b : Bool) : Prop := ∀ (B0 H0 B H : Hp) (σ : L2.St) (Q : Bool → Hp → Prop), Sd K B0 H0 B H σ δ → (∀ B' H', Stp B H B' H' → Q b H') → tt σ H Q
def EA (ta : TA) (δ : List SV) (ds : List D) : Prop := ∀ (B0 H0 B H : Hp) (σ : L2.St) (Q : List V → Hp → Prop), Sd K B0 H0 B H σ δ → (∀ vs B' H', Stp B H B' H' → DqAll K B' vs ds → Q vs H') → ta σ H Q
def EO (to : TO) (δ : List SV) (o : Option Int) : Prop := ∀ (B0 H0 B H : Hp) (σ : L2.St) (Q : Option Int → Hp → Prop), Sd K B0 H0 B H σ δ → (∀ B' H', Stp B H B' H' → Q o H') → to σ H Q
/-- a new list -/
def EN (te : TE) (δ : List SV) (ds : List D) : Prop := ∀ (B0 H0 B H : Hp) (σ : L2.St) (Q : VK), Sd K B0 H0 B H σ δ → (∀ p vs B' H', Stp B H B' H' → H p = none → B' p = none → H' p = some (.lst vs) → DqAll K B' vs ds → Q (.ref p) H') → te σ H Q
end
section
variable {K : PySem.W.Frag} {δ : List SV} {ta tb te : TE} {t u : TT} {d x y : D} {ds es : List D}
theorem EN.ed (h : EN K te δ ds) : ED K te δ (.list ds) := fun B0 H0 B H σ Q S q => h B0 H0 B H σ Q S fun p vs B' H' s hn hb hp a => by
  obtain ⟨k1, k2⟩ := Stp.know (o := .lst vs) s.bh hb hp
  refine q (.ref p) (upd B' p (.lst vs)) H' ⟨s.bb.trans k1, k2, s.hh, fun b q1 z => ?_⟩ (.lst (.inl (.inl upd_same)) (DqAll.up k1 _ _ a))
  have hbp : b ≠ p := fun e => by subst e; exact q1 hn
  rw [upd_ne hbp]
  exact s.fr b q1 z
theorem ed_var {i : Nat} (h : δ[i]? = some (.val d)) : ED K (tVar i) δ d := fun B0 H0 B H σ Q S q => by
  obtain ⟨v, a, b⟩ := S.slot h
  exact ⟨v, a, q v B H (.refl S.hist.bh) b⟩
inductive Sc : V → D → Prop
  | non : Sc .non .none
  | bl (b : Bool) : Sc (.bl b) (.bool b)
  | int (i : Int) : Sc (.int i) (.int i)
  | str (x : Str) : Sc (.str x) (.str x)
theorem Sc.dp {H : Hp} {v : V} : Sc v d → Dq K H v d
  | .non => .non
  | .bl b => .bl b
  | .int i => .int i
  | .str x => .str x
theorem ed_c {v : V} (h : Sc v d) : ED K (tC v) δ d := fun B0 H0 B H σ Q S q => q v B H (.refl S.hist.bh) h.dp
theorem ed_int {i : Int} : ED K (tC (.int i)) δ (.int i) := ed_c (.int i)
theorem ed_bl {b : Bool} : ED K (tC (.bl b)) δ (.bool b) := ed_c (.bl b)
theorem ed_non : ED K (tC .non) δ .none := ed_c .non
theorem ed_str {x : Str} : ED K (tC (.str x)) δ (.str x) := ed_c (.str x)
theorem ed_rI {C : Int → Int → Prop} {g : Int → Int → V} {i j : Int} (ha : ED K ta δ (.int i)) (hb : ED K tb δ (.int j)) (hc : C i j) (hg : Sc (g i j) d) : ED K (tOp (rI C g) ta tb) δ d := fun B0 H0 B H σ Q S q =>
  ha B0 H0 B H σ _ S fun v B1 H1 s1 a => hb B0 H0 B1 H1 σ _ (S.step s1) fun w B2 H2 s2 b => by
    cases Dq.int_inv a; cases Dq.int_inv b
    exact ⟨i, j, rfl, rfl, hc, q _ B2 H2 (s1.trans s2) hg.dp⟩
theorem ed_rI0 {g : Int → Int → V} {i j : Int} (ha : ED K ta δ (.int i)) (hb : ED K tb δ (.int j)) (hg : Sc (g i j) d) : ED K (tOp (rI0 g) ta tb) δ d := fun B0 H0 B H σ Q S q =>
  ha B0 H0 B H σ _ S fun v B1 H1 s1 a => hb B0 H0 B1 H1 σ _ (S.step s1) fun w B2 H2 s2 b => by
    cases Dq.int_inv a; cases Dq.int_inv b
    exact ⟨i, j, rfl, rfl, q _ B2 H2 (s1.trans s2) hg.dp⟩
theorem ed_rU {g : Int → V} {i : Int} (ha : ED K ta δ (.int i)) (hg : Sc (g i) d) : ED K (tUn (rU g) ta) δ d := fun B0 H0 B H σ Q S q =>
  ha B0 H0 B H σ _ S fun v B1 H1 s1 a => by
    cases Dq.int_inv a
    exact ⟨i, rfl, q _ B1 H1 s1 hg.dp⟩
theorem ed_eqD (ha : ED K ta δ x) (hb : ED K tb δ y) (sx : SeqAt.shaped x = true) (sy : SeqAt.shaped y = true) {b : Bool} (e : PyData.eqv x y = b) : ED K (tOp (rEqD K) ta tb) δ (.bool b) := fun B0 H0 B H σ Q S q =>
  ha B0 H0 B H σ _ S fun v B1 H1 s1 a => hb B0 H0 B1 H1 σ _ (S.step s1) fun w B2 H2 s2 c =>
    ⟨x, y, Dq.dp _ _ (Dq.up (s2.bb.trans s2.bh) _ _ a) (PySem.SeqAt.canLay_of_shaped sx), Dq.dp _ _ (Dq.up s2.bh _ _ c) (PySem.SeqAt.canLay_of_shaped sy), sx, sy, by rw [e]; exact q _ B2 H2 (s1.trans s2) (.bl b)⟩
theorem ed_neD (ha : ED K ta δ x) (hb : ED K tb δ y) (sx : SeqAt.shaped x = true) (sy : SeqAt.shaped y = true) {b : Bool} (e : (!PyData.eqv x y) = b) : ED K (tOp (rNeD K) ta tb) δ (.bool b) := fun B0 H0 B H σ Q S q =>
  ha B0 H0 B H σ _ S fun v B1 H1 s1 a => hb B0 H0 B1 H1 σ _ (S.step s1) fun w B2 H2 s2 c =>
    ⟨x, y, Dq.dp _ _ (Dq.up (s2.bb.trans s2.bh) _ _ a) (PySem.SeqAt.canLay_of_shaped sx), Dq.dp _ _ (Dq.up s2.bh _ _ c) (PySem.SeqAt.canLay_of_shaped sy), sx, sy, by rw [e]; exact q _ B2 H2 (s1.trans s2) (.bl b)⟩
/-- the item of data at an int -/
def itemD (x : D) (i : Int) : Option D := match x with
  | .list ds => atI ds i
  | .tuple ds => atI ds i
  | _ => none
theorem atI_dp {H : Hp} {vs : List V} {i : Int} (h : DqAll K H vs ds) (e : atI ds i = some d) : ∃ v, atI vs i = some v ∧ Dq K H v d := by
  unfold atI at e ⊢
  rw [h.len]
  cases q : ixN ds.length i with
  | none => rw [q] at e; cases e
  | some j =>
    rw [q] at e
    exact h.get e
theorem ed_ix {i : Int} (ha : ED K ta δ x) (hb : ED K tb δ (.int i)) (e : itemD x i = some d) : ED K (tOp (rIx K) ta tb) δ d := fun B0 H0 B H σ Q S q =>
  ha B0 H0 B H σ _ S fun v B1 H1 s1 a => hb B0 H0 B1 H1 σ _ (S.step s1) fun w B2 H2 s2 c => by
    cases Dq.int_inv c
    cases a with
    | lst hs hA =>
      obtain ⟨v, e1, e2⟩ := atI_dp hA e
      exact .inl ⟨_, _, i, v, rfl, rfl, (s2.bb.trans s2.bh).seq hs, e1, q v B2 H2 (s1.trans s2) (Dq.up s2.bb _ _ e2)⟩
    | tup hs hA =>
      obtain ⟨v, e1, e2⟩ := atI_dp hA e
      exact .inr (.inl ⟨_, _, i, v, rfl, rfl, sqT_up (s2.bb.trans s2.bh) hs, e1, q v B2 H2 (s1.trans s2) (Dq.up s2.bb _ _ e2)⟩)
    | _ => cases e
/-- an owned list's item -/
theorem ed_ixOwn {k : Nat} {i : Int} (ha : δ[k]? = some (.own (.l ds))) (hb : ED K tb δ (.int i)) (e : atI ds i = some d) : ED K (tOp (rIx K) (tVar k) tb) δ d := fun B0 H0 B H σ Q S q => by
  obtain ⟨p, vs, a1, _⟩ := S.slotOwn ha
  refine ⟨_, a1, hb B0 H0 B H σ _ S fun w B2 H2 s2 c => ?_⟩
  cases Dq.int_inv c
  obtain ⟨p', vs', b1, b2, b3, b4, b5⟩ := (S.step s2).slotOwn ha
  rw [a1] at b1; cases b1
  obtain ⟨v, e1, e2⟩ := atI_dp b5 e
  exact .inl ⟨_, _, i, v, rfl, rfl, .inl (.inl b2), e1, q v B2 H2 s2 e2⟩
theorem sz_small {n : Nat} (h : n ≤ 100000) : n ≤ sizeLine := Nat.le_trans h (by decide)
theorem ea_nil : EA K tNil δ [] := fun B0 H0 B H σ Q S q => q [] B H (.refl S.hist.bh) .nil
theorem ea_cons {tr : TA} (ha : ED K ta δ d) (hr : EA K tr δ ds) : EA K (tCons ta tr) δ (d :: ds) := fun B0 H0 B H σ Q S q =>
  ha B0 H0 B H σ _ S fun v B1 H1 s1 a => hr B0 H0 B1 H1 σ _ (S.step s1) fun vs B2 H2 s2 b => q _ B2 H2 (s1.trans s2) (.cons (Dq.up s2.bb _ _ a) b)
theorem ed_tup {ta : TA} (h : EA K ta δ ds) (hl : ds.length ≤ sizeLine) : ED K (tTup ta) δ (.tuple ds) := fun B0 H0 B H σ Q S q =>
  h B0 H0 B H σ _ S fun vs B1 H1 s1 a => ⟨by rw [a.len]; exact hl, fun p hp =>
    q (.ref p) (upd B1 p (.tup vs)) _ (s1.trans (.new s1.bh hp)) (.tup (.inl (.inl upd_same)) (DqAll.up (same_new (s1.bh.free hp)) _ _ a))⟩
theorem en_lst {ta : TA} (h : EA K ta δ ds) (hl : ds.length ≤ sizeLine) : EN K (tLst ta) δ ds := fun B0 H0 B H σ Q S q =>
  h B0 H0 B H σ _ S fun vs B1 H1 s1 a => ⟨by rw [a.len]; exact hl, fun p hp =>
    q p vs B1 _ (s1.trans (.newOwn s1.bh hp)) (s1.hh.free hp) (s1.bh.free hp) upd_same a⟩
/-- the promise of a def over data -/
def spD (K : PySem.W.Frag) (R : List D → D → Prop) : Sp := fun vs H Q _ => ∃ B ds d, R ds d ∧ Same B H ∧ DqAll K B vs ds ∧ ∀ v B' H', Stp B H B' H' → Dq K B' v d → Q v H'
theorem ed_call {ta : TA} {R : List D → D → Prop} {E : XK} (h : EA K ta δ ds) (r : R ds d) : ED K (tCall (spD K R) [] E ta) δ d := fun B0 H0 B H σ Q S q =>
  h B0 H0 B H σ _ S fun vs B1 H1 s1 a => ⟨B1, ds, d, r, s1.bh, by rw [List.append_nil]; exact a, fun v B' H' s2 b => q v B' H' (s1.trans s2) b⟩
/-! ### tests -/
theorem et_test {b : Bool} (h : ED K te δ (.bool b)) : ET K (tTest te) δ b := fun B0 H0 B H σ Q S q =>
  h B0 H0 B H σ _ S fun v B1 H1 s1 a => by
    cases Dq.bool_inv a
    exact ⟨b, rfl, q B1 H1 s1⟩
theorem et_B {b : Bool} (h : ED K te δ (.bool b)) : ET K (tB te) δ b := fun B0 H0 B H σ Q S q =>
  h B0 H0 B H σ _ S fun v B1 H1 s1 a => by
    cases Dq.bool_inv a
    exact ⟨b, rfl, q B1 H1 s1⟩
theorem et_and {a b : Bool} (h1 : ET K t δ a) (h2 : a = true → ET K u δ b) : ET K (tAnd t u) δ (a && b) := fun B0 H0 B H σ Q S q => h1 B0 H0 B H σ _ S fun B1 H1 s1 => by
  cases a with
  | true => exact iteT (h2 rfl B0 H0 B1 H1 σ _ (S.step s1) fun B2 H2 s2 => q B2 H2 (s1.trans s2))
  | false => exact iteF (q B1 H1 s1)
theorem et_or {a b : Bool} (h1 : ET K t δ a) (h2 : a = false → ET K u δ b) : ET K (tOr t u) δ (a || b) := fun B0 H0 B H σ Q S q => h1 B0 H0 B H σ _ S fun B1 H1 s1 => by
  cases a with
  | false => exact iteF (h2 rfl B0 H0 B1 H1 σ _ (S.step s1) fun B2 H2 s2 => q B2 H2 (s1.trans s2))
  | true => exact iteT (q B1 H1 s1)
theorem et_not {a : Bool} (h1 : ET K t δ a) : ET K (tNot t) δ (!a) := fun B0 H0 B H σ Q S q => h1 B0 H0 B H σ _ S fun B1 H1 s1 => q B1 H1 s1
theorem ed_andV {a b : Bool} (h1 : ED K ta δ (.bool a)) (h2 : a = true → ED K tb δ (.bool b)) : ED K (tAndV ta tb) δ (.bool (a && b)) := fun B0 H0 B H σ Q S q => h1 B0 H0 B H σ _ S fun v B1 H1 s1 c => by
  cases Dq.bool_inv c
  refine ⟨a, rfl, ?_⟩
  cases a with
  | true => exact iteT (h2 rfl B0 H0 B1 H1 σ _ (S.step s1) fun w B2 H2 s2 => q w B2 H2 (s1.trans s2))
  | false => exact iteF (q _ B1 H1 s1 (.bl false))
theorem ed_orV {a b : Bool} (h1 : ED K ta δ (.bool a)) (h2 : a = false → ED K tb δ (.bool b)) : ED K (tOrV ta tb) δ (.bool (a || b)) := fun B0 H0 B H σ Q S q => h1 B0 H0 B H σ _ S fun v B1 H1 s1 c => by
  cases Dq.bool_inv c
  refine ⟨a, rfl, ?_⟩
  cases a with
  | false => exact iteF (h2 rfl B0 H0 B1 H1 σ _ (S.step s1) fun w B2 H2 s2 => q w B2 H2 (s1.trans s2))
  | true => exact iteT (q _ B1 H1 s1 (.bl true))
theorem ed_notV {a : Bool} (h1 : ED K ta δ (.bool a)) : ED K (tNotV ta) δ (.bool (!a)) := fun B0 H0 B H σ Q S q => h1 B0 H0 B H σ _ S fun v B1 H1 s1 c => by
  cases Dq.bool_inv c
  exact ⟨a, rfl, q _ B1 H1 s1 (.bl _)⟩
theorem ed_if {b : Bool} (h : ET K t δ b) (h1 : b = true → ED K ta δ d) (h2 : b = false → ED K tb δ d) : ED K (tIf t ta tb) δ d := fun B0 H0 B H σ Q S q => h B0 H0 B H σ _ S fun B1 H1 s1 => by
  cases b with
  | true => exact iteT (h1 rfl B0 H0 B1 H1 σ _ (S.step s1) fun w B2 H2 s2 => q w B2 H2 (s1.trans s2))
  | false => exact iteF (h2 rfl B0 H0 B1 H1 σ _ (S.step s1) fun w B2 H2 s2 => q w B2 H2 (s1.trans s2))
end
end DX

namespace DX
open PySem L2

/-! ### built-in calls, by name -/
def rAbsQ : List V → Hp → VK → Prop := fun xs H Q => ∃ i, xs = [.int i] ∧ Q (.int (if i < 0 then -i else i)) H
def rMax2Q : List V → Hp → VK → Prop := fun xs H Q => ∃ i j, xs = [.int i, .int j] ∧ Q (.int (if j > i then j else i)) H
def rMin2Q : List V → Hp → VK → Prop := fun xs H Q => ∃ i j, xs = [.int i, .int j] ∧ Q (.int (if j < i then j else i)) H
def rIntQ : List V → Hp → VK → Prop := fun xs H Q => (∃ i, xs = [.int i] ∧ Q (.int i) H) ∨ ∃ k, xs = [.bl k] ∧ Q (.int (if k then 1 else 0)) H
def rListQ (K : PySem.W.Frag) : List V → Hp → VK → Prop := fun xs H Q => ∃ p ys, xs = [.ref p] ∧ (SqL K H p ys ∨ SqT K H p ys) ∧ ∀ l, H l = none → Q (.ref l) (upd H l (.lst ys))
def rTupleQ (K : PySem.W.Frag) : List V → Hp → VK → Prop := fun xs H Q => ∃ p ys, xs = [.ref p] ∧ ((SqL K H p ys ∧ ∀ l, H l = none → Q (.ref l) (upd H l (.tup ys))) ∨ (SqT K H p ys ∧ Q (.ref p) H))
def rLenQ (K : PySem.W.Frag) : List V → Hp → VK → Prop := fun xs H Q => ∃ p ys, xs = [.ref p] ∧ (SqL K H p ys ∨ SqT K H p ys) ∧ Q (.int ys.length) H
section
variable {X : Cx}
theorem cr_lenQ : CallR X (.builtin "len") (rLenQ X.K) := call_len_seq
theorem cr_absQ : CallR X (.builtin "abs") rAbsQ := call_abs
theorem cr_max2 (hc : X.calm = true) : CallR X (.builtin "max") rMax2Q := call_max2 hc
theorem cr_min2 (hc : X.calm = true) : CallR X (.builtin "min") rMin2Q := call_min2 hc
theorem cr_intQ : CallR X (.type "int") rIntQ := call_int1
theorem cr_listQ : CallR X (.type "list") (rListQ X.K) := call_list_of
theorem cr_tupleQ : CallR X (.type "tuple") (rTupleQ X.K) := call_tuple_of
end
def CMulX (i j : Int) : Prop := CMul i j ∨ CMulW i j
section
variable {X : Cx}
theorem op_mulX : OpR X (binaryOp .Mult) (rI CMulX fun i j => .int (i * j)) := opI fun _ _ _ _ _ _ _ hc q => PyProof.Rows.mul_int q (hc.elim (·.ok) (·.ok))
end
/-! ### operators of any size -/
def CDivX (_ j : Int) : Prop := j ≠ 0 ∧ j.natAbs.log2 < 9000
section
variable {X : Cx}
theorem op_fdivX : OpR X (binaryOp .FloorDiv) (rI CDivX fun i j => .int (i.fdiv j)) := opI fun i j _ _ _ _ _ hc q =>
  PyProof.Rows.floordiv_int hc.1 q (.inl (PyProof.noPylong_of_log2 hc.2))
end

section
variable {K : PySem.W.Frag} {δ : List SV} {ta tb te : TE} {t u : TT} {d x y : D} {ds es : List D}
/-! ### built-in calls -/
theorem ed_cb {r : List V → Hp → VK → Prop} {ta : TA} (h : EA K ta δ ds) (hr : ∀ B H vs (Q : VK), Same B H → DqAll K B vs ds → (∀ v B' H', Stp B H B' H' → Dq K B' v d → Q v H') → r vs H Q) : ED K (tCB r ta) δ d := fun B0 H0 B H σ Q S q =>
  h B0 H0 B H σ _ S fun vs B1 H1 s1 a => hr B1 H1 vs Q s1.bh a fun v B' H' s2 b => q v B' H' (s1.trans s2) b
theorem en_cb {r : List V → Hp → VK → Prop} {ta : TA} (h : EA K ta δ ds) (hr : ∀ B H vs (Q : VK), Same B H → DqAll K B vs ds → (∀ p ws, H p = none → DqAll K B ws es → Q (.ref p) (upd H p (.lst ws))) → r vs H Q) : EN K (tCB r ta) δ es := fun B0 H0 B H σ Q S q =>
  h B0 H0 B H σ _ S fun vs B1 H1 s1 a => hr B1 H1 vs Q s1.bh a fun p ws np b => q p ws B1 _ (s1.trans (.newOwn s1.bh np)) (s1.hh.free np) (s1.bh.free np) upd_same b
theorem _root_.L2.DqAll.one {B : Hp} {vs : List V} (h : DqAll K B vs [d]) : ∃ v, vs = [v] ∧ Dq K B v d := by
  cases h with
  | cons h1 h2 => cases h2; exact ⟨_, rfl, h1⟩
theorem _root_.L2.DqAll.two {B : Hp} {vs : List V} (h : DqAll K B vs [x, y]) : ∃ v w, vs = [v, w] ∧ Dq K B v x ∧ Dq K B w y := by
  cases h with
  | cons h1 h2 => cases h2 with
    | cons h2 h3 => cases h3; exact ⟨_, _, rfl, h1, h2⟩
/-- len of list or tuple data -/
def lenD : D → Option Nat
  | .list ds => some ds.length
  | .tuple ds => some ds.length
  | _ => none
def rLenQ0 (K : PySem.W.Frag) : List V → Hp → VK → Prop := fun xs H Q => ∃ p ys, xs = [.ref p] ∧ (SqL K H p ys ∨ SqT K H p ys) ∧ Q (.int ys.length) H
theorem ed_len {n : Nat} (h : ED K te δ x) (e : lenD x = some n) : ED K (tCB (rLenQ K) (tCons te tNil)) δ (.int n) :=
  ed_cb (ea_cons h ea_nil) fun B H vs Q bh a q => by
    obtain ⟨v, rfl, b⟩ := a.one
    cases b with
    | lst hs hA =>
      cases e
      exact ⟨_, _, rfl, .inl (bh.seq hs), q _ B H (.refl bh) (by rw [hA.len]; exact .int _)⟩
    | tup hs hA =>
      cases e
      exact ⟨_, _, rfl, .inr (sqT_up bh hs), q _ B H (.refl bh) (by rw [hA.len]; exact .int _)⟩
    | _ => cases e
theorem ed_lenOwn {k : Nat} (e : δ[k]? = some (.own (.l ds))) : ED K (tCB (rLenQ K) (tCons (tVar k) tNil)) δ (.int ds.length) := fun B0 H0 B H σ Q S q => by
  obtain ⟨p, vs, a, b, c, c', d⟩ := S.slotOwn e
  exact ⟨_, a, p, vs, rfl, .inl (.inl (.inl b)), q _ B H (.refl S.hist.bh) (by rw [d.len]; exact .int _)⟩
theorem ed_abs {i : Int} (h : ED K te δ (.int i)) : ED K (tCB rAbsQ (tCons te tNil)) δ (.int i.natAbs) :=
  ed_cb (ea_cons h ea_nil) fun B H vs Q bh a q => by
    obtain ⟨v, rfl, b⟩ := a.one
    cases Dq.int_inv b
    refine ⟨i, rfl, q _ B H (.refl bh) ?_⟩
    have e : (if i < 0 then -i else i) = (i.natAbs : Int) := by split <;> omega
    rw [e]; exact .int _
theorem ed_max2 {i j : Int} (h : ED K ta δ (.int i)) (h' : ED K tb δ (.int j)) : ED K (tCB rMax2Q (tCons ta (tCons tb tNil))) δ (.int (max i j)) :=
  ed_cb (ea_cons h (ea_cons h' ea_nil)) fun B H vs Q bh a q => by
    obtain ⟨v, w, rfl, b, c⟩ := a.two
    cases Dq.int_inv b; cases Dq.int_inv c
    refine ⟨i, j, rfl, q _ B H (.refl bh) ?_⟩
    have e : (if j > i then j else i) = max i j := by split <;> omega
    rw [e]; exact .int _
theorem ed_min2 {i j : Int} (h : ED K ta δ (.int i)) (h' : ED K tb δ (.int j)) : ED K (tCB rMin2Q (tCons ta (tCons tb tNil))) δ (.int (min i j)) :=
  ed_cb (ea_cons h (ea_cons h' ea_nil)) fun B H vs Q bh a q => by
    obtain ⟨v, w, rfl, b, c⟩ := a.two
    cases Dq.int_inv b; cases Dq.int_inv c
    refine ⟨i, j, rfl, q _ B H (.refl bh) ?_⟩
    have e : (if j < i then j else i) = min i j := by split <;> omega
    rw [e]; exact .int _
/-- int(n), int(flag) -/
def intD : D → Option Int
  | .int i => some i
  | .bool b => some (if b then 1 else 0)
  | _ => none
theorem ed_int1 {i : Int} (h : ED K te δ x) (e : intD x = some i) : ED K (tCB rIntQ (tCons te tNil)) δ (.int i) :=
  ed_cb (ea_cons h ea_nil) fun B H vs Q bh a q => by
    obtain ⟨v, rfl, b⟩ := a.one
    cases b with
    | int j => cases e; exact .inl ⟨_, rfl, q _ B H (.refl bh) (.int _)⟩
    | bl c => cases e; exact .inr ⟨_, rfl, q _ B H (.refl bh) (.int _)⟩
    | _ => cases e
theorem ed_gcd {i j : Int} (h : ED K ta δ (.int i)) (h' : ED K tb δ (.int j)) : ED K (tCB rGcd (tCons ta (tCons tb tNil))) δ (.int (Nat.gcd i.natAbs j.natAbs : Nat)) :=
  ed_cb (ea_cons h (ea_cons h' ea_nil)) fun B H vs Q bh a q => by
    obtain ⟨v, w, rfl, b, c⟩ := a.two
    cases Dq.int_inv b; cases Dq.int_inv c
    exact ⟨i, j, rfl, q _ B H (.refl bh) (.int _)⟩
end
/-- math.lcm of two ints -/
def rLcm : List V → Hp → VK → Prop := fun vs H Q => ∃ a b : Int, vs = [.int a, .int b] ∧ (a.natAbs < 2 ^ 13000 ∧ b.natAbs < 2 ^ 13000) ∧ Q (.int ((Nat.lcm a.natAbs b.natAbs : Nat) : Int)) H
theorem lcm_le (a b : Nat) : Nat.lcm a b ≤ a * b := by
  unfold Nat.lcm
  exact Nat.div_le_self _ _
theorem lt_of_log {n k : Nat} (h : n < 2 ^ k) (h0 : 0 < k) : n.log2 < k := PySem.Flt.log2_lt_of h0 (by simpa using h)
theorem cr_lcm {X : Cx} : CallR X (.builtin "math.lcm") rLcm := by
  intro pins s σ H vs us Q I r h
  obtain ⟨a, b, rfl, ⟨ha, hb⟩, q⟩ := h
  obtain ⟨t, u, rfl⟩ := Vals.int2 r
  have e1 : (Nat.lcm 1 a.natAbs).lcm b.natAbs = Nat.lcm a.natAbs b.natAbs := by rw [Nat.lcm_one_left]
  have h1 : (max 1 a.natAbs).log2 < 13000 := lt_of_log (by have := Nat.one_lt_two_pow (n := 13000) (by decide); omega) (by decide)
  have h2 : (max a.natAbs b.natAbs).log2 < 13000 := lt_of_log (by omega) (by decide)
  have h3 : (((Nat.lcm 1 a.natAbs).lcm b.natAbs : Nat) : Int).natAbs < 2 ^ 26000 := by
    rw [e1]
    show Nat.lcm a.natAbs b.natAbs < 2 ^ 26000
    refine Nat.lt_of_le_of_lt (lcm_le _ _) ?_
    rw [show (26000 : Nat) = 13000 + 13000 from rfl, Nat.pow_add]
    exact Nat.mul_lt_mul'' ha hb
  have h4 : (((Nat.lcm 1 a.natAbs).lcm b.natAbs : Nat) : Int).natAbs.log2 < bitsLine := Nat.lt_of_lt_of_le (lt_of_log h3 (by decide)) (by decide)
  refine PySem.call_function_meets PySem.W.MGF.kind_lcm PySem.W.MGF.plain_lcm PySem.W.MGF.entry_lcm (PySem.W.MGF.args_lcm _ _) (PySem.W.mg_run_lcm a t b u (by omega) (by omega) h4).meets ?_
  rw [e1]
  exact ⟨.int _, H, I.tok _, ⟨_, rfl⟩, q⟩
section
variable {K : PySem.W.Frag} {δ : List SV} {ta tb te : TE} {t u : TT} {d x y : D} {ds es : List D}
theorem ed_lcm {i j : Int} (h : ED K ta δ (.int i)) (h' : ED K tb δ (.int j)) (hi : i.natAbs < 2 ^ 13000) (hj : j.natAbs < 2 ^ 13000) : ED K (tCB rLcm (tCons ta (tCons tb tNil))) δ (.int (Nat.lcm i.natAbs j.natAbs : Nat)) :=
  ed_cb (ea_cons h (ea_cons h' ea_nil)) fun B H vs Q bh a q => by
    obtain ⟨v, w, rfl, b, c⟩ := a.two
    cases Dq.int_inv b; cases Dq.int_inv c
    exact ⟨i, j, rfl, ⟨hi, hj⟩, q _ B H (.refl bh) (.int _)⟩
/-- the items of list or tuple data -/
def itemsD : D → Option (List D)
  | .list ds => some ds
  | .tuple ds => some ds
  | _ => none
theorem en_list (h : ED K te δ x) (e : itemsD x = some ds) : EN K (tCB (rListQ K) (tCons te tNil)) δ ds :=
  en_cb (ea_cons h ea_nil) fun B H vs Q bh a q => by
    obtain ⟨v, rfl, b⟩ := a.one
    cases b with
    | lst hs hA => cases e; exact ⟨_, _, rfl, .inl (bh.seq hs), fun l hl => q l _ hl hA⟩
    | tup hs hA => cases e; exact ⟨_, _, rfl, .inr (sqT_up bh hs), fun l hl => q l _ hl hA⟩
    | _ => cases e
theorem en_listOwn {k : Nat} (e : δ[k]? = some (.own (.l ds))) : EN K (tCB (rListQ K) (tCons (tVar k) tNil)) δ ds := fun B0 H0 B H σ Q S q => by
  obtain ⟨p, vs, a, b, c, c', d⟩ := S.slotOwn e
  exact ⟨_, a, p, vs, rfl, .inl (.inl (.inl b)), fun l hl => q l _ B _ (.newOwn S.hist.bh hl) hl (S.hist.bh.free hl) upd_same d⟩
/-- tuple(x) -/
theorem ed_tupleOf (h : ED K te δ x) (e : itemsD x = some ds) : ED K (tCB (rTupleQ K) (tCons te tNil)) δ (.tuple ds) :=
  ed_cb (ea_cons h ea_nil) fun B H vs Q bh a q => by
    obtain ⟨v, rfl, b⟩ := a.one
    cases b with
    | lst hs hA =>
      cases e
      exact ⟨_, _, rfl, .inl ⟨bh.seq hs, fun l hl => q _ (upd B l _) _ (.new bh hl) (.tup (.inl (.inl upd_same)) (DqAll.up (same_new (bh.free hl)) _ _ hA))⟩⟩
    | tup hs hA => cases e; exact ⟨_, _, rfl, .inr ⟨sqT_up bh hs, q _ B H (.refl bh) (.tup hs hA)⟩⟩
    | _ => cases e
/-- sum of ints, all and any of bools -/
theorem ed_sum {ns : List Int} (h : ED K te δ (.list (ns.map PyData.int))) : ED K (tCB (rSum K) (tCons te tNil)) δ (.int ns.sum) :=
  ed_cb (ea_cons h ea_nil) fun B H vs Q bh a q => by
    obtain ⟨v, rfl, b⟩ := a.one
    cases b with
    | lst hs hA => cases hA.ints; exact ⟨_, ns, rfl, bh.seq hs, q _ B H (.refl bh) (.int _)⟩
theorem ed_all {bs : List Bool} (h : ED K te δ (.list (bs.map PyData.bool))) : ED K (tCB (rAll K) (tCons te tNil)) δ (.bool (bs.all id)) :=
  ed_cb (ea_cons h ea_nil) fun B H vs Q bh a q => by
    obtain ⟨v, rfl, b⟩ := a.one
    cases b with
    | lst hs hA => cases hA.bools; exact ⟨_, bs, rfl, bh.seq hs, q _ B H (.refl bh) (.bl _)⟩
theorem ed_any {bs : List Bool} (h : ED K te δ (.list (bs.map PyData.bool))) : ED K (tCB (rAny K) (tCons te tNil)) δ (.bool (bs.any id)) :=
  ed_cb (ea_cons h ea_nil) fun B H vs Q bh a q => by
    obtain ⟨v, rfl, b⟩ := a.one
    cases b with
    | lst hs hA => cases hA.bools; exact ⟨_, bs, rfl, bh.seq hs, q _ B H (.refl bh) (.bl _)⟩
/-- isinstance of data, a built-in class -/
def tyName : D → String
  | .none => "NoneType"
  | .bool _ => "bool"
  | .int _ => "int"
  | .str _ => "str"
  | .list _ => "list"
  | .tuple _ => "tuple"
  | .dict _ => "dict"
theorem tyx_of {B H : Hp} {v : V} (bh : Same B H) (h : Dq K B v d) : TyX K H v (.type (tyName d)) := by
  cases h with
  | non => exact .base .non
  | bl b => exact .base (.bl b)
  | int i => exact .base (.int i)
  | str x => exact .base (.str x)
  | lst hs _ =>
    rcases hs with (h | ⟨o, h⟩) | ⟨o, its, n, h1, h2, _⟩
    · exact .base (.lst (bh _ _ h))
    · exact .base (.frz (bh _ _ h))
    · exact .kList h1 h2
  | tup hs _ =>
    rcases hs with (h | ⟨o, h⟩) | ⟨o, its, n, h1, h2, _⟩
    · exact .base (.tup (bh _ _ h))
    · exact .fTuple (bh _ _ h)
    · exact .kTuple h1 h2
  | dct hs _ =>
    rcases hs with h | ⟨o, h⟩
    · exact .base (.dK (bh _ _ h))
    · exact .fDict (bh _ _ h)
theorem ed_isi {n : String} {b : Bool} (h : ED K te δ d) (e : kitB (tyName d) n = some b) : ED K (tCB (rIsi K) (tCons te (tCons (tC (.ty n)) tNil))) δ (.bool b) := fun B0 H0 B H σ Q S q =>
  h B0 H0 B H σ _ S fun v B1 H1 s1 a => ⟨v, .ty n, _, _, b, rfl, .ty n, tyx_of s1.bh a, kit_ty e, q _ B1 H1 s1 (.bl b)⟩
/-! ### new lists -/
theorem en_cat (ha : EN K ta δ ds) (hb : EN K tb δ es) (hl : ds.length + es.length ≤ sizeLine) : EN K (tOp rCat ta tb) δ (ds ++ es) := fun B0 H0 B H σ Q S q =>
  ha B0 H0 B H σ _ S fun p vs B1 H1 s1 n1 b1 e1 a1 => hb B0 H0 B1 H1 σ _ (S.step s1) fun p2 ws B2 H2 s2 n2 b2 e2 a2 =>
    ⟨p, p2, vs, ws, rfl, rfl, s2.hh _ _ e1, e2, by rw [a1.len, a2.len]; exact hl, fun l hl => q l _ B2 _ ((s1.trans s2).trans (.newOwn s2.bh hl)) ((s1.trans s2).hh.free hl) (s2.bh.free hl) upd_same ((DqAll.up s2.bb _ _ a1).app a2)⟩
theorem dqall_rep {B : Hp} {vs : List V} (h : DqAll K B vs ds) : ∀ n : Nat, DqAll K B (List.replicate n vs).flatten (List.replicate n ds).flatten
  | 0 => .nil
  | n + 1 => by
    rw [List.replicate_succ, List.replicate_succ, List.flatten_cons, List.flatten_cons]
    exact h.app (dqall_rep h n)
theorem en_rep {k : Int} (ha : EN K ta δ ds) (hb : ED K tb δ (.int k)) (h1 : -(2 ^ 63) ≤ k ∧ k < 2 ^ 63) (hl : ds.length * k.toNat ≤ sizeLine) : EN K (tOp rRep ta tb) δ (List.replicate k.toNat ds).flatten := fun B0 H0 B H σ Q S q =>
  ha B0 H0 B H σ _ S fun p vs B1 H1 s1 n1 b1 e1 a1 => hb B0 H0 B1 H1 σ _ (S.step s1) fun w B2 H2 s2 c => by
    cases Dq.int_inv c
    exact ⟨p, k, vs, rfl, rfl, s2.hh _ _ e1, h1.1, h1.2, by rw [a1.len]; exact hl, fun l hl => q l _ B2 _ ((s1.trans s2).trans (.newOwn s2.bh hl)) ((s1.trans s2).hh.free hl) (s2.bh.free hl) upd_same (dqall_rep (DqAll.up s2.bb _ _ a1) _)⟩
theorem dqall_rev {B : Hp} : ∀ {ds : List D} {vs : List V}, DqAll K B vs ds → DqAll K B vs.reverse ds.reverse
  | [], _, h => by cases h; exact .nil
  | d :: ds, _, h => by
    cases h with
    | cons h1 h2 =>
      rw [List.reverse_cons, List.reverse_cons]
      exact (dqall_rev h2).app (.cons h1 .nil)
/-- xs[a:b] of a list -/
def cutD (ds : List D) (lo hi : Option Int) : List D := (ds.drop (HT.sIx ds.length 0 lo)).take (HT.sIx ds.length ds.length hi - HT.sIx ds.length 0 lo)
theorem eo_none : EO K tNoPart δ none := fun B0 H0 B H σ Q S q => q B H (.refl S.hist.bh)
theorem eo_some {i : Int} (h : ED K te δ (.int i)) : EO K (tPart te) δ (some i) := fun B0 H0 B H σ Q S q => h B0 H0 B H σ _ S fun v B1 H1 s1 a => by
  cases Dq.int_inv a
  exact ⟨i, rfl, q B1 H1 s1⟩
theorem en_slice {tl th : TO} {lo hi : Option Int} (h : ED K te δ (.list ds)) (h1 : EO K tl δ lo) (h2 : EO K th δ hi) : EN K (tSl (rSlL K) te tl th) δ (cutD ds lo hi) := fun B0 H0 B H σ Q S q =>
  h B0 H0 B H σ _ S fun v B1 H1 s1 a => h1 B0 H0 B1 H1 σ _ (S.step s1) fun B2 H2 s2 => h2 B0 H0 B2 H2 σ _ ((S.step s1).step s2) fun B3 H3 s3 => by
    cases a with
    | lst hs hA =>
      have st := (s1.trans s2).trans s3
      refine ⟨_, _, rfl, ((s2.trans s3).bb.trans s3.bh).seq hs, fun p hp => q p _ B3 _ (st.trans (.newOwn s3.bh hp)) (st.hh.free hp) (s3.bh.free hp) upd_same ?_⟩
      unfold cutV cutD
      rw [hA.len]
      exact (DqAll.up (s2.trans s3).bb _ _ hA).drop _ |>.take _

/-! ### what is walked -/
/-- from B1 on the walk yields ds -/
def YD (K : PySem.W.Frag) (J : It) (B1 : Hp) (ds : List D) : Prop := ∀ (B H : Hp) (i : Nat), Same B1 B → Same B H →
  (i < ds.length → J.go i H ∧ ∀ x H', J.yld i H x H' → ∃ B' d, Stp B H B' H' ∧ ds[i]? = some d ∧ Dq K B' x d) ∧ (i = ds.length → J.stop i H)
def EI (K : PySem.W.Frag) (wi : TI) (δ : List SV) (ds : List D) : Prop := ∀ (B0 H0 B H : Hp) (σ : L2.St) (R : It → Hp → Prop), Sd K B0 H0 B H σ δ → (∀ J B1 H1, Stp B H B1 H1 → YD K J B1 ds → R J H1) → wi σ H R
theorem ei_list (h : ED K te δ (.list ds)) : EI K (iList K te) δ ds := fun B0 H0 B H σ R S q => h B0 H0 B H σ _ S fun v B1 H1 s1 a => by
  cases a with
  | lst hs hA =>
    refine ⟨_, rfl, ⟨_, s1.bh.seq hs⟩, q _ B1 H1 s1 fun B H i e1 e2 => ⟨fun hi => ?_, fun hi => ?_⟩⟩
    · obtain ⟨v, g1, g2⟩ := hA.get (List.getElem?_eq_getElem hi)
      refine ⟨⟨_, v, (e1.trans e2).seq hs, g1⟩, fun x H' y => ?_⟩
      obtain ⟨rfl, y⟩ := y
      have ex := (y _ ((e1.trans e2).seq hs)).symm.trans g1
      cases ex
      exact ⟨B, _, .refl e2, List.getElem?_eq_getElem hi, Dq.up e1 _ _ g2⟩
    · exact ⟨_, (e1.trans e2).seq hs, by rw [hA.len, hi]; exact Nat.le_refl _⟩
theorem ei_tup (h : ED K te δ (.tuple ds)) : EI K (iTup K te) δ ds := fun B0 H0 B H σ R S q => h B0 H0 B H σ _ S fun v B1 H1 s1 a => by
  cases a with
  | tup hs hA =>
    refine ⟨_, rfl, ⟨_, sqT_up s1.bh hs⟩, q _ B1 H1 s1 fun B H i e1 e2 => ⟨fun hi => ?_, fun hi => ?_⟩⟩
    · obtain ⟨v, g1, g2⟩ := hA.get (List.getElem?_eq_getElem hi)
      refine ⟨⟨_, v, sqT_up (e1.trans e2) hs, g1⟩, fun x H' y => ?_⟩
      obtain ⟨rfl, y⟩ := y
      have ex := (y _ (sqT_up (e1.trans e2) hs)).symm.trans g1
      cases ex
      exact ⟨B, _, .refl e2, List.getElem?_eq_getElem hi, Dq.up e1 _ _ g2⟩
    · exact ⟨_, sqT_up (e1.trans e2) hs, by rw [hA.len, hi]; exact Nat.le_refl _⟩
/-- 0, 1, .. below n -/
def rngD (lo : Int) (n : Nat) : List D := (List.range n).map fun k => PyData.int (lo + (k : Nat))
theorem yd_rng {lo : Int} {n : Nat} {B1 : Hp} : YD K (Itr lo n) B1 (rngD lo n) := fun B H i e1 e2 => by
  have hl : (rngD lo n).length = n := by unfold rngD; simp
  refine ⟨fun hi => ⟨by rw [hl] at hi; exact hi, fun x H' y => ?_⟩, fun hi => by rw [hl] at hi; show n ≤ i; omega⟩
  obtain ⟨rfl, rfl⟩ := y
  rw [hl] at hi
  refine ⟨B, .int (lo + i), .refl e2, ?_, .int _⟩
  unfold rngD
  simp [hi]
theorem ei_rng1 {n : Int} (h : ED K te δ (.int n)) (hn : -(2 ^ 62) ≤ n ∧ n < 2 ^ 62) : EI K (iRng1 (tCons te tNil)) δ (rngD 0 n.toNat) := fun B0 H0 B H σ R S q => h B0 H0 B H σ _ S fun v B1 H1 s1 a => by
  cases Dq.int_inv a
  exact ⟨n, rfl, hn.1, hn.2, q _ B1 H1 s1 yd_rng⟩
theorem ei_rng2 {m n : Int} (h : ED K ta δ (.int m)) (h' : ED K tb δ (.int n)) (hn : -(2 ^ 62) ≤ m ∧ m < 2 ^ 62 ∧ -(2 ^ 62) ≤ n ∧ n < 2 ^ 62) : EI K (iRng2 (tCons ta (tCons tb tNil))) δ (rngD m (n - m).toNat) := fun B0 H0 B H σ R S q =>
  h B0 H0 B H σ _ S fun v B1 H1 s1 a => h' B0 H0 B1 H1 σ _ (S.step s1) fun w B2 H2 s2 b => by
  cases Dq.int_inv a; cases Dq.int_inv b
  exact ⟨m, n, rfl, hn, q _ B2 H2 (s1.trans s2) yd_rng⟩

/-! ### comprehensions -/
theorem wipe_gName {σ : L2.St} {i : Nat} {x : Option V} : wipe ((wipe σ [i]).set i x) [i] = wipe σ [i] := by
  show (((σ.set i none).set i x).set i none) = σ.set i none
  rw [List.set_set, List.set_set]
theorem map_take_succ {α β : Type} {f : α → β} {p : α → Bool} {xs : List α} {i : Nat} {x : α} (h : xs[i]? = some x) : ((xs.take (i + 1)).filter p).map f = ((xs.take i).filter p).map f ++ (if p x then [f x] else []) := by
  rw [List.take_add_one, h, List.filter_append, List.map_append]
  cases e : p x <;> simp [e]
theorem en_lcG {α : Type} {xs : List α} {g : α → D} {wi : TI} {tt : TT} {i : Nat} {p : α → Bool} {f : α → D} (hw : EI K wi δ (xs.map g)) (hl : xs.length ≤ sizeLine)
    (ht : ∀ x, x ∈ xs → ET K tt ((δ.set i .no).set i (.val (g x))) (p x)) (he : ∀ x, x ∈ xs → p x = true → ED K te ((δ.set i .no).set i (.val (g x))) (f x)) : EN K (tLc wi (gName i) tt te [i]) δ ((xs.filter p).map f) := fun B0 H0 B H σ Q S q =>
  hw B0 H0 B H σ _ S fun J B1 H1 s1 yd L nL => by
    have S1 := S.step s1
    refine ⟨fun k m H' => m = xs.length - k ∧ k ≤ xs.length ∧ ∃ B' acc, Sd K B1 H0 B' H' σ δ ∧ B' L = none ∧ H' L = some (.lst acc) ∧ DqAll K B' acc (((xs.take k).filter p).map f) ∧ Stp B1 H1 B' H', ⟨_, rfl, Nat.zero_le _, B1, [], ?_, s1.bh.free nL, upd_same, ?_, .newOwn s1.bh nL⟩, ?_⟩
    · exact (S1.past S1.hist.bb (Same.refl _)).step (.newOwn s1.bh nL)
    · rw [List.take_zero]; exact .nil
    rintro k m H' ⟨rfl, hk, B', acc, S', bL, hL, hA, sp⟩
    obtain ⟨y1, y2⟩ := yd B' H' k S'.hist.bb S'.hist.bh
    by_cases hlt : k < xs.length
    · obtain ⟨go, yy⟩ := y1 (by rw [List.length_map]; exact hlt)
      refine .inr ⟨go, fun H'' => ∃ B'' acc, Sd K B1 H0 B'' H'' σ δ ∧ B'' L = none ∧ H'' L = some (.lst acc) ∧ DqAll K B'' acc (((xs.take (k + 1)).filter p).map f) ∧ Stp B1 H1 B'' H'', fun H'' z => ⟨xs.length - (k + 1), by omega, rfl, hlt, z⟩, fun x H2 yl => ?_⟩
      obtain ⟨B2, d', s2, ed', dp⟩ := yy x H2 yl
      have ed : xs[k]? = some xs[k] := List.getElem?_eq_getElem hlt
      have eg : d' = g xs[k] := by
        rw [List.getElem?_map, ed] at ed'
        exact (Option.some.inj ed').symm
      subst eg
      have hm : xs[k] ∈ xs := List.getElem_mem hlt
      have hLne : H' L ≠ none := by rw [hL]; exact fun z => nomatch z
      have S2 := S'.step s2
      have S3 : Sd K B1 H0 B2 H2 ((wipe σ [i]).set i (some x)) ((δ.set i .no).set i (.val (g xs[k]))) := (S2.forget (i := i) (o := none)).setVal dp
      refine ⟨wipe_gName, ht xs[k] hm B1 H0 B2 H2 _ _ S3 fun B3 H3 s3 => ?_⟩
      cases e : p xs[k] with
      | true =>
        refine iteT (he xs[k] hm e B1 H0 B3 H3 _ _ (S3.step s3) fun v B4 H4 s4 dv => ?_)
        have st := (s2.trans s3).trans s4
        have hL4 : H4 L = some (.lst acc) := st.hh _ _ hL
        have bL4 : B4 L = none := st.fr L hLne bL
        have hA4 := DqAll.up st.bb _ _ hA
        refine ⟨acc, hL4, ?_, B4, acc ++ [v], ?_, bL4, upd_same, ?_, ?_⟩
        · have h1 := hA.len
          have h2 : (((xs.take k).filter p).map f).length ≤ k := by
            rw [List.length_map]
            exact Nat.le_trans (List.length_filter_le _ _) (by rw [List.length_take]; omega)
          omega
        · have S4 := (S'.step st)
          refine ⟨⟨S4.hist.bb, fun a o ea => ?_, fun a o ea => ?_, S4.hist.fr⟩, S4.len, fun j z ej => ?_, S4.apart⟩
          · have : a ≠ L := fun z => by subst z; rw [bL4] at ea; cases ea
            rw [upd_ne this]; exact S4.hist.bh _ _ ea
          · have : a ≠ L := fun z => by
              subst z
              have := S1.hist.hh _ _ ea
              rw [nL] at this; cases this
            rw [upd_ne this]; exact S4.hist.hh _ _ ea
          · obtain ⟨o, eo, ok⟩ := S4.ok j z ej
            refine ⟨o, eo, ?_⟩
            cases z with
            | no => exact True.intro
            | val d => exact ok
            | own es =>
              obtain ⟨pp, vs, e1, e2, e3, e4, e5⟩ := ok
              have hne : pp ≠ L := fun z => by
                subst z
                obtain ⟨o', eo', ok'⟩ := S1.ok j _ ej
                obtain ⟨pp', vs', f1, f2, _⟩ := ok'
                rw [eo] at eo'; cases eo'
                rw [e1] at f1; cases f1
                rw [nL] at f2; cases f2
              exact ⟨pp, vs, e1, by rw [upd_ne hne]; exact e2, e3, e4, e5⟩
        · rw [map_take_succ ed, if_pos e]
          exact hA4.app (.cons dv .nil)
        · have sq := sp.trans st
          refine ⟨sq.bb, fun a o ea => ?_, fun a o ea => ?_, sq.fr⟩
          · have : a ≠ L := fun z => by subst z; rw [bL4] at ea; cases ea
            rw [upd_ne this]; exact sq.bh _ _ ea
          · have : a ≠ L := fun z => by subst z; rw [nL] at ea; cases ea
            rw [upd_ne this]; exact sq.hh _ _ ea
      | false =>
        refine iteF ⟨B3, acc, S'.step (s2.trans s3), (s2.trans s3).fr L hLne bL, (s2.trans s3).hh _ _ hL, ?_, sp.trans (s2.trans s3)⟩
        rw [map_take_succ ed, e, if_neg Bool.false_ne_true, List.append_nil]
        exact DqAll.up (s2.trans s3).bb _ _ hA
    · have e : k = xs.length := by omega
      subst e
      rw [List.take_length] at hA
      exact .inl ⟨y2 (by rw [List.length_map]), q L acc B' H' (s1.trans sp) (s1.hh.free nL) bL hL hA⟩
theorem et_yes {δ : List SV} : ET K tYes δ true := fun B0 H0 B H σ Q S q => q B H (.refl S.hist.bh)
theorem en_lc1 {α : Type} {xs : List α} {g : α → D} {wi : TI} {i : Nat} {f : α → D} (hw : EI K wi δ (xs.map g)) (hl : xs.length ≤ sizeLine)
    (he : ∀ x, x ∈ xs → ED K te ((δ.set i .no).set i (.val (g x))) (f x)) : EN K (tLc wi (gName i) tYes te [i]) δ (xs.map f) := by
  have := en_lcG (p := fun _ => true) (f := f) hw hl (fun _ _ => et_yes) fun d hd _ => he d hd
  rwa [List.filter_eq_self.mpr (fun _ _ => rfl)] at this
theorem ED.of {d' : D} (h : ED K te δ d) (e : d = d') : ED K te δ d' := e ▸ h
theorem EN.of (h : EN K te δ ds) (e : ds = es) : EN K te δ es := e ▸ h
theorem ET.of {b b' : Bool} (h : ET K t δ b) (e : b = b') : ET K t δ b' := e ▸ h
theorem EI.of {wi : TI} (h : EI K wi δ ds) (e : ds = es) : EI K wi δ es := e ▸ h
/-- x is b, x is not b: bools -/
theorem ed_isB {a b : Bool} (h : ED K ta δ (.bool a)) (h' : ED K tb δ (.bool b)) : ED K (tOp rIsB ta tb) δ (.bool (decide (a = b))) := fun B0 H0 B H σ Q S q =>
  h B0 H0 B H σ _ S fun v B1 H1 s1 c => h' B0 H0 B1 H1 σ _ (S.step s1) fun w B2 H2 s2 d => by
    cases Dq.bool_inv c; cases Dq.bool_inv d
    exact ⟨a, b, rfl, rfl, q _ B2 H2 (s1.trans s2) (.bl _)⟩
theorem ed_notB {a b : Bool} (h : ED K ta δ (.bool a)) (h' : ED K tb δ (.bool b)) : ED K (tOp rNotB ta tb) δ (.bool (!decide (a = b))) := fun B0 H0 B H σ Q S q =>
  h B0 H0 B H σ _ S fun v B1 H1 s1 c => h' B0 H0 B1 H1 σ _ (S.step s1) fun w B2 H2 s2 d => by
    cases Dq.bool_inv c; cases Dq.bool_inv d
    exact ⟨a, b, rfl, rfl, q _ B2 H2 (s1.trans s2) (.bl _)⟩
/-- xs[::-1] -/
theorem en_rev (h : ED K te δ (.list ds)) : EN K (tRevL K te) δ ds.reverse := fun B0 H0 B H σ Q S q => h B0 H0 B H σ _ S fun v B1 H1 s1 a => by
  cases a with
  | lst hs hA => exact ⟨_, _, rfl, s1.bh.seq hs, fun p hp => q p _ B1 _ (s1.trans (.newOwn s1.bh hp)) (s1.hh.free hp) (s1.bh.free hp) upd_same (dqall_rev hA)⟩
end
end DX

namespace DX
open PySem L2

/-! ### statements -/
structure EndsD where
  nx : List SV → Prop
  rt : D → Prop
  bk : List SV → Prop := fun _ => False
  ct : List SV → Prop := fun _ => False
structure Lift (K : PySem.W.Frag) (B0 H0 : Hp) (E : EndsD) (D : Ends) : Prop where
  nx : ∀ σ H B δ, Sd K B0 H0 B H σ δ → E.nx δ → D.nx σ H
  rt : ∀ v B H d, Hist B0 H0 B H → Dq K B v d → E.rt d → D.rt v H
  bk : ∀ σ H B δ, Sd K B0 H0 B H σ δ → E.bk δ → D.bk σ H
  ct : ∀ σ H B δ, Sd K B0 H0 B H σ δ → E.ct δ → D.ct σ H
def WP (K : PySem.W.Frag) (ts : TS) (E : EndsD) (δ : List SV) : Prop := ∀ (B0 H0 B H : Hp) (σ : L2.St) (D : Ends), Lift K B0 H0 E D → Sd K B0 H0 B H σ δ → ts D σ H
/-- assignment to a target -/
def GD (K : PySem.W.Frag) (g : TG) (δ : List SV) (d : D) (δ' : List SV) : Prop := ∀ (B0 H0 B H : Hp) (σ : L2.St) (v : V) (Q : L2.St → Hp → Prop), Sd K B0 H0 B H σ δ → Dq K B v d → (∀ σ', Sd K B0 H0 B H σ' δ' → Q σ' H) → g v σ H Q
def GDs (K : PySem.W.Frag) (g : TGs) (δ : List SV) (ds : List D) (δ' : List SV) : Prop := ∀ (B0 H0 B H : Hp) (σ : L2.St) (vs : List V) (Q : L2.St → Hp → Prop), Sd K B0 H0 B H σ δ → DqAll K B vs ds → (∀ σ', Sd K B0 H0 B H σ' δ' → Q σ' H) → g vs σ H Q
section
variable {K : PySem.W.Frag} {δ δ' δ'' : List SV} {ta tb te : TE} {c : TT} {t u : TS} {d x y : D} {ds es : List D} {E : EndsD}
theorem gd_name {i : Nat} : GD K (gName i) δ d (δ.set i (.val d)) := fun B0 H0 B H σ v Q S h q => q _ (S.setVal h)
theorem gds_nil : GDs K gNil δ [] δ := fun B0 H0 B H σ vs Q S h q => by
  cases h
  exact ⟨rfl, q σ S⟩
theorem gds_cons {g : TG} {gs : TGs} (h1 : GD K g δ d δ') (h2 : GDs K gs δ' ds δ'') : GDs K (gCons g gs) δ (d :: ds) δ'' := fun B0 H0 B H σ vs Q S h q => by
  cases h with
  | cons a b => exact ⟨_, _, rfl, h1 B0 H0 B H σ _ _ S a fun σ' S' => h2 B0 H0 B H σ' _ _ S' b q⟩
theorem gd_tup {g : TGs} {n : Nat} (h : GDs K g δ ds δ') (e : ds.length = n) : GD K (gTup K n g) δ (.tuple ds) δ' := fun B0 H0 B H σ v Q S a q => by
  cases a with
  | tup hs hA => exact ⟨_, _, rfl, sqT_up S.hist.bh hs, hA.len.trans e, h B0 H0 B H σ _ Q S hA q⟩

theorem wp_seq (h : WP K t { E with nx := fun δ' => WP K u E δ' } δ) : WP K (tSeq t u) E δ := fun B0 H0 B H σ D L S =>
  h B0 H0 B H σ { D with nx := u D } ⟨fun σ' H' B' δ' S' w => w B0 H0 B' H' σ' D L S', L.rt, L.bk, L.ct⟩ S
theorem wp_next (h : E.nx δ) : WP K tNext E δ := fun B0 H0 B H σ D L S => L.nx σ H B δ S h
theorem wp_asgG {g : TG} (h : ED K te δ d) (hg : GD K g δ d δ') (q : E.nx δ') : WP K (tAsg te g) E δ := fun B0 H0 B H σ D L S =>
  h B0 H0 B H σ _ S fun v B1 H1 s1 a => hg B0 H0 B1 H1 σ v _ (S.step s1) a fun σ' S' => L.nx σ' H1 B1 δ' S' q
theorem wp_asg {i : Nat} (h : ED K te δ d) (q : E.nx (δ.set i (.val d))) : WP K (tAsg te (gName i)) E δ := wp_asgG h gd_name q
theorem wp_asgN {i : Nat} (h : EN K te δ ds) (q : E.nx (δ.set i (.own (.l ds)))) : WP K (tAsg te (gName i)) E δ := fun B0 H0 B H σ D L S =>
  h B0 H0 B H σ _ S fun p vs B1 H1 s1 np bp hp a => by
    refine L.nx _ H1 B1 _ ((S.step s1).set (x := .own (.l ds)) (show SlotOk K B1 H1 H0 (some (.ref p)) (.own (.l ds)) from ⟨p, .lst vs, rfl, hp, bp, S.hist.hh.free np, vs, rfl, a⟩) fun es _ j pp es' _ e1 e2 e3 => ?_) q
    cases e1
    obtain ⟨p', vs', a1, a2, _⟩ := S.slotObj e2
    rw [e3] at a1; cases a1
    rw [np] at a2; cases a2
theorem wp_par {i j : Nat} {ta : TA} (h : EA K ta δ [x, y]) (q : E.nx ((δ.set i (.val x)).set j (.val y))) : WP K (tPar i j ta) E δ := fun B0 H0 B H σ D L S =>
  h B0 H0 B H σ _ S fun vs B1 H1 s1 a => by
    obtain ⟨v, w, rfl, b, c⟩ := a.two
    exact ⟨v, w, rfl, L.nx _ H1 B1 _ (((S.step s1).setVal b).setVal c) q⟩
theorem wp_ret (h : ED K te δ d) (q : E.rt d) : WP K (tRet te) E δ := fun B0 H0 B H σ D L S =>
  h B0 H0 B H σ _ S fun v B1 H1 s1 a => L.rt v B1 H1 d (s1.hist S.hist) a q
theorem wp_retN (q : E.rt .none) : WP K tRetN E δ := fun B0 H0 B H σ D L S => L.rt _ B H .none S.hist .non q
theorem wp_if {b : Bool} (h : ET K c δ b) (h1 : b = true → WP K t E δ) (h2 : b = false → WP K u E δ) : WP K (tIfS c t u) E δ := fun B0 H0 B H σ D L S =>
  h B0 H0 B H σ _ S fun B1 H1 s1 => by
    cases b with
    | true => exact iteT (h1 rfl B0 H0 B1 H1 σ D L (S.step s1))
    | false => exact iteF (h2 rfl B0 H0 B1 H1 σ D L (S.step s1))
theorem wp_drop (h : ED K te δ d) (q : E.nx δ) : WP K (tDrop te) E δ := fun B0 H0 B H σ D L S =>
  h B0 H0 B H σ _ S fun v B1 H1 s1 a => L.nx σ H1 B1 δ (S.step s1) q
theorem wp_break (q : E.bk δ) : WP K tBreak E δ := fun B0 H0 B H σ D L S => L.bk σ H B δ S q
theorem wp_cont (q : E.ct δ) : WP K tCont E δ := fun B0 H0 B H σ D L S => L.ct σ H B δ S q
/-- an owned list is known from now on -/
theorem Sd.freezeAt {B0 H0 B H : Hp} {σ : L2.St} {i : Nat} {p : Addr} {vs : List V} (S : Sd K B0 H0 B H σ δ) (e : δ[i]? = some (.own (.l ds))) (a1 : σ[i]? = some (some (.ref p))) (hp : H p = some (.lst vs)) (bp : B p = none) (h0 : H0 p = none) (dp : DqAll K B vs ds) :
    Sd K B0 H0 (upd B p (.lst vs)) H σ (δ.set i (.val (.list ds))) := by
  obtain ⟨k1, k2⟩ := Stp.know (o := .lst vs) S.hist.bh bp hp
  refine ⟨⟨S.hist.bb.trans k1, k2, S.hist.hh, fun a q z => ?_⟩, by rw [List.length_set]; exact S.len, fun j s ej => ?_, fun j k q es fs n e1 e2 e3 e4 => ?_⟩
  · have : a ≠ p := fun e => by subst e; exact q h0
    rw [upd_ne this]; exact S.hist.fr a q z
  · rcases get_set ej with ⟨rfl, rfl⟩ | ⟨hne, ej⟩
    · exact ⟨_, a1, .ref p, rfl, .lst (.inl (.inl upd_same)) (DqAll.up k1 _ _ dp)⟩
    · obtain ⟨o, eo, ok⟩ := S.ok j s ej
      refine ⟨o, eo, ?_⟩
      cases s with
      | no => exact True.intro
      | val d => obtain ⟨v, e1, e2⟩ := ok; exact ⟨v, e1, Dq.up k1 _ _ e2⟩
      | own es =>
        obtain ⟨pp, ws, e1, e2, e3, e4, e5⟩ := ok
        have hne2 : pp ≠ p := fun z => by
          subst z
          subst e1
          exact S.apart i j pp (.l ds) es hne e ej a1 eo
        exact ⟨pp, ws, e1, e2, by rw [upd_ne hne2]; exact e3, e4, e5.up k1⟩
  · rcases get_set e1 with ⟨_, z⟩ | ⟨_, e1⟩
    · cases z
    · rcases get_set e2 with ⟨_, z⟩ | ⟨_, e2⟩
      · cases z
      · exact S.apart j k q es fs n e1 e2 e3 e4
theorem Sd.freeze {B0 H0 B H : Hp} {σ : L2.St} {i : Nat} (S : Sd K B0 H0 B H σ δ) (e : δ[i]? = some (.own (.l ds))) : ∃ B', Sd K B0 H0 B' H σ (δ.set i (.val (.list ds))) ∧ Same B B' := by
  obtain ⟨p, vs, a1, hp, bp, h0, dp⟩ := S.slotOwn e
  exact ⟨_, S.freezeAt e a1 hp bp h0 dp, (Stp.know (o := .lst vs) S.hist.bh bp hp).1⟩
theorem wp_freeze (i : Nat) (e : δ[i]? = some (.own (.l ds))) (h : WP K t E (δ.set i (.val (.list ds)))) : WP K t E δ := fun B0 H0 B H σ D L S => by
  obtain ⟨B', S', _⟩ := S.freeze e
  exact h B0 H0 B' H σ D L S'
theorem wp_retOwn {i : Nat} (e : δ[i]? = some (.own (.l ds))) (q : E.rt (.list ds)) : WP K (tRet (tVar i)) E δ :=
  wp_freeze i e (wp_ret (ed_var (by
    have hl : i < δ.length := (List.getElem?_eq_some_iff.mp e).1
    rw [List.getElem?_set_self hl])) q)
/-- xs.append(e), xs owned -/
theorem own_upd {B0 H0 B H : Hp} {σ : L2.St} {i : Nat} {p : Addr} {u : HO} {xo yo : OD} (S : Sd K B0 H0 B H σ δ) (e : δ[i]? = some (.own xo)) (a1 : σ[i]? = some (some (.ref p))) (bp : B p = none) (h0 : H0 p = none) (h : OwnRep K B u yo) : Sd K B0 H0 B (upd H p u) σ (δ.set i (.own yo)) := by
  have hsi : i < δ.length := (List.getElem?_eq_some_iff.mp e).1
  refine ⟨⟨S.hist.bb, fun a o ea => ?_, fun a o ea => ?_, S.hist.fr⟩, by rw [List.length_set]; exact S.len, fun j s ej => ?_, fun j k q es' fs n e1 e2 e3 e4 => ?_⟩
  · have : a ≠ p := fun z => by subst z; rw [bp] at ea; cases ea
    rw [upd_ne this]; exact S.hist.bh _ _ ea
  · have : a ≠ p := fun z => by subst z; rw [h0] at ea; cases ea
    rw [upd_ne this]; exact S.hist.hh _ _ ea
  · rcases get_set ej with ⟨rfl, rfl⟩ | ⟨hne, ej⟩
    · exact ⟨_, a1, p, u, rfl, upd_same, bp, h0, h⟩
    · obtain ⟨o, eo, ok⟩ := S.ok j s ej
      refine ⟨o, eo, ?_⟩
      cases s with
      | no => exact True.intro
      | val d => exact ok
      | own es' =>
        obtain ⟨pp, us, e1, e2, e3, e4, e5⟩ := ok
        have hne2 : pp ≠ p := fun z => by
          subst z
          subst e1
          exact S.apart i j pp xo es' hne e ej a1 eo
        exact ⟨pp, us, e1, by rw [upd_ne hne2]; exact e2, e3, e4, e5⟩
  · have back : ∀ {m : Nat} {gs : OD}, (δ.set i (.own yo))[m]? = some (.own gs) → ∃ gs', δ[m]? = some (.own gs') := fun {m gs} z => by
      rcases get_set z with ⟨rfl, _⟩ | ⟨_, z⟩
      · exact ⟨_, e⟩
      · exact ⟨_, z⟩
    obtain ⟨g1, f1⟩ := back e1
    obtain ⟨g2, f2⟩ := back e2
    exact S.apart j k q g1 g2 n f1 f2 e3 e4
theorem wp_app {i : Nat} (e : δ[i]? = some (.own (.l ds))) (h : ED K te δ d) (hl : ds.length < sizeLine) (q : E.nx (δ.set i (.own (.l (ds ++ [d]))))) : WP K (tDrop (tBM K "list" rAppend (tVar i) (tCons te tNil))) E δ := fun B0 H0 B H σ D L S => by
  obtain ⟨p, vs, a1, hp, bp, h0, dp⟩ := S.slotOwn e
  refine ⟨_, a1, .inl ⟨rfl, vs, .inl (.inl hp)⟩, h B0 H0 B H σ _ S fun v B1 H1 s1 a => ?_⟩
  have S1 := S.step s1
  obtain ⟨p', vs', a1', hp', bp', h0', dp'⟩ := S1.slotOwn e
  rw [a1] at a1'; cases a1'
  refine ⟨p, vs', v, rfl, rfl, hp', by rw [dp'.len]; exact hl, L.nx _ _ B1 _ (own_upd (yo := .l _) S1 e a1 bp' h0' ⟨_, rfl, dp'.app (.cons a .nil)⟩) q⟩
theorem ixN_at {n : Nat} {i : Int} {j : Nat} (h0 : 0 ≤ i) (h : i < n) (e : i.toNat = j) : ixN n i = some j := by
  unfold ixN
  rw [if_pos h0, if_pos h, e]
/-- xs[i] = e, xs owned -/
theorem wp_setOwn {i : Nat} {k : Int} {j : Nat} (e : δ[i]? = some (.own (.l ds))) (h : ED K te δ d) (hk : ED K tb δ (.int k)) (hj : ixN ds.length k = some j) (q : E.nx (δ.set i (.own (.l (ds.set j d))))) : WP K (tAsg te (gSub (tVar i) tb rSetL)) E δ := fun B0 H0 B H σ D L S =>
  h B0 H0 B H σ _ S fun v B1 H1 s1 a => by
    have S1 := S.step s1
    obtain ⟨p, vs, a1, hp, bp, h0, dp⟩ := S1.slotOwn e
    refine ⟨_, a1, hk B0 H0 B1 H1 σ _ S1 fun w B2 H2 s2 b => ?_⟩
    cases Dq.int_inv b
    have S2 := S1.step s2
    obtain ⟨p', vs', a1', hp', bp', h0', dp'⟩ := S2.slotOwn e
    rw [a1] at a1'; cases a1'
    exact ⟨p, vs', k, j, rfl, rfl, hp', by rw [dp'.len]; exact hj, L.nx _ _ B2 _ (own_upd (yo := .l _) S2 e a1 bp' h0' ⟨_, rfl, dp'.set (Dq.up s2.bb _ _ a) j⟩) q⟩
/-- x op= e, ints -/
theorem wp_aug {i : Nat} {f : Int → Int → Int} {a b : Int} (hx : δ[i]? = some (.val (.int a))) (h : ED K te δ (.int b)) (q : E.nx (δ.set i (.val (.int (f a b))))) : WP K (tAug i te (ipI f)) E δ := fun B0 H0 B H σ D L S => by
  obtain ⟨v, e, dv⟩ := S.slot hx
  cases Dq.int_inv dv
  refine ⟨_, e, h B0 H0 B H σ _ S fun w B1 H1 s1 c => ?_⟩
  cases Dq.int_inv c
  exact ⟨a, b, rfl, rfl, L.nx _ H1 B1 _ ((S.step s1).setVal (.int _)) q⟩
/-! ### loops -/
theorem wp_for {wi : TI} {g : TG} (I : Nat → List SV → Prop) (hw : EI K wi δ ds) (h0 : I 0 δ)
    (hs : ∀ k d δ', ds[k]? = some d → I k δ' → ∃ δ'', GD K g δ' d δ'' ∧ WP K t { E with nx := I (k + 1), ct := I (k + 1), bk := E.nx } δ'') (hd : ∀ δ', I ds.length δ' → E.nx δ') : WP K (tFor wi g t) E δ := fun B0 H0 B H σ D L S =>
  hw B0 H0 B H σ _ S fun J B1 H1 s1 yd => by
    have S1 := S.step s1
    refine ⟨fun k m σ' H' => m = ds.length - k ∧ k ≤ ds.length ∧ ∃ B' δ', Sd K B1 H0 B' H' σ' δ' ∧ I k δ', ⟨_, rfl, Nat.zero_le _, B1, δ, S1.past S1.hist.bb (Same.refl _), h0⟩, ?_⟩
    rintro k m σ' H' ⟨rfl, hk, B', δ', S', ik⟩
    obtain ⟨y1, y2⟩ := yd B' H' k S'.hist.bb S'.hist.bh
    by_cases hlt : k < ds.length
    · obtain ⟨go, yy⟩ := y1 hlt
      refine .inr ⟨go, fun σ2 H2 => ∃ B2 δ2, Sd K B1 H0 B2 H2 σ2 δ2 ∧ I (k + 1) δ2, fun σ2 H2 ⟨B2, δ2, S2, i2⟩ => ⟨ds.length - (k + 1), by omega, rfl, hlt, B2, δ2, S2, i2⟩, fun x H2 yl => ?_⟩
      obtain ⟨B2, d, s2, ed, dp⟩ := yy x H2 yl
      obtain ⟨δ'', gd, wp⟩ := hs k d δ' ed ik
      refine gd B1 H0 B2 H2 σ' x _ (S'.step s2) dp fun σ3 S3 => wp B1 H0 B2 H2 σ3 _ ⟨fun σ4 H4 B4 δ4 S4 q => ⟨B4, δ4, S4, q⟩, fun v B4 H4 d' hh dv q => L.rt v B4 H4 d' (hh.back S1.hist) dv q, fun σ4 H4 B4 δ4 S4 q => L.nx σ4 H4 B4 δ4 (S4.back S1.hist) q, fun σ4 H4 B4 δ4 S4 q => ⟨B4, δ4, S4, q⟩⟩ S3
    · have e : k = ds.length := by omega
      subst e
      exact .inl ⟨y2 rfl, L.nx σ' H' B' δ' (S'.back S1.hist) (hd δ' ik)⟩
/-- one name as target -/
theorem wp_for1 {wi : TI} {i : Nat} (I : Nat → List SV → Prop) (hw : EI K wi δ ds) (h0 : I 0 δ)
    (hs : ∀ k d δ', ds[k]? = some d → I k δ' → WP K t { E with nx := I (k + 1), ct := I (k + 1), bk := E.nx } (δ'.set i (.val d))) (hd : ∀ δ', I ds.length δ' → E.nx δ') : WP K (tFor wi (gName i) t) E δ :=
  wp_for I hw h0 (fun k d δ' e ik => ⟨_, gd_name, hs k d δ' e ik⟩) hd
theorem wp_forG {α : Type} {xs : List α} {g : α → D} {wi : TI} {i : Nat} (I : Nat → List SV → Prop) (hw : EI K wi δ (xs.map g)) (h0 : I 0 δ)
    (hs : ∀ k x δ', xs[k]? = some x → I k δ' → WP K t { E with nx := I (k + 1), ct := I (k + 1), bk := E.nx } (δ'.set i (.val (g x)))) (hd : ∀ δ', I xs.length δ' → E.nx δ') : WP K (tFor wi (gName i) t) E δ :=
  wp_for1 I hw h0 (fun k d δ' e ik => by
    rw [List.getElem?_map] at e
    cases q : xs[k]? with
    | none => rw [q] at e; cases e
    | some x => rw [q] at e; cases e; exact hs k x δ' q ik) (by rw [List.length_map]; exact hd)
theorem wp_while (I : Nat → List SV → Prop) {n : Nat} (h0 : I n δ)
    (hs : ∀ n δ', I n δ' → ∃ b, ET K c δ' b ∧ (b = true → WP K t { E with nx := fun δ2 => ∃ m, m < n ∧ I m δ2, ct := fun δ2 => ∃ m, m < n ∧ I m δ2, bk := E.nx } δ') ∧ (b = false → E.nx δ')) : WP K (tWhile c t) E δ := fun B0 H0 B H σ D L S => by
  refine ⟨fun m σ' H' => ∃ B' δ', Sd K B0 H0 B' H' σ' δ' ∧ I m δ', ⟨n, B, δ, S, h0⟩, ?_⟩
  rintro m σ' H' ⟨B', δ', S', im⟩
  obtain ⟨b, hb, h1, h2⟩ := hs m δ' im
  refine hb B0 H0 B' H' σ' _ S' fun B2 H2 s2 => ?_
  cases b with
  | true =>
    refine iteT ⟨fun σ3 H3 => ∃ m', m' < m ∧ ∃ B3 δ3, Sd K B0 H0 B3 H3 σ3 δ3 ∧ I m' δ3, fun σ3 H3 z => z, h1 rfl B0 H0 B2 H2 σ' _ ⟨?_, L.rt, L.nx, ?_⟩ (S'.step s2)⟩
    · rintro σ4 H4 B4 δ4 S4 ⟨m', l, q⟩
      exact ⟨m', l, B4, δ4, S4, q⟩
    · rintro σ4 H4 B4 δ4 S4 ⟨m', l, q⟩
      exact ⟨m', l, B4, δ4, S4, q⟩
  | false => exact iteF (L.nx σ' H2 B2 δ' (S'.step s2) (h2 rfl))
end
/-! ### a def -/
def startD (N : List Str) (ds : List D) : List SV := ds.map .val ++ List.replicate (N.length - ds.length) .no
section
variable {P : Program} {w : World} {K : PySem.W.Frag} {mg : Str → Option Value} {base : Heap}
theorem start_sd {N : List Str} {vs : List V} {ds : List D} {B H : Hp} (bh : Same B H) (h : DqAll K B vs ds) : Sd K B H B H (L2.start N vs) (startD N ds) := by
  have hl := h.len
  refine ⟨⟨Same.refl _, bh, Same.refl _, fun _ _ z => z⟩, ?_, fun i s e => ?_, fun i j p es fs n e1 e2 e3 e4 => ?_⟩
  · unfold L2.start startD
    rw [List.length_append, List.length_append, List.length_map, List.length_map, List.length_replicate, List.length_replicate, hl]
  · unfold startD at e
    unfold L2.start
    by_cases hi : i < ds.length
    · rw [List.getElem?_append_left (by rw [List.length_map]; exact hi), List.getElem?_map, List.getElem?_eq_getElem hi] at e
      cases e
      obtain ⟨v, a, b⟩ := h.get (List.getElem?_eq_getElem hi)
      rw [List.getElem?_append_left (by rw [List.length_map, hl]; exact hi), List.getElem?_map, a]
      exact ⟨_, rfl, v, rfl, b⟩
    · rw [List.getElem?_append_right (by rw [List.length_map]; omega), List.length_map] at e
      rw [List.getElem?_append_right (by rw [List.length_map, hl]; omega), List.length_map, hl]
      rw [List.getElem?_replicate] at e ⊢
      by_cases hz : i - ds.length < N.length - ds.length
      · rw [if_pos hz] at e ⊢
        cases e
        exact ⟨_, rfl, True.intro⟩
      · rw [if_neg hz] at e; cases e
  · unfold startD at e1
    by_cases hi : i < ds.length
    · rw [List.getElem?_append_left (by rw [List.length_map]; exact hi), List.getElem?_map, List.getElem?_eq_getElem hi] at e1
      cases e1
    · rw [List.getElem?_append_right (by rw [List.length_map]; omega), List.length_map, List.getElem?_replicate] at e1
      by_cases hz : i - ds.length < N.length - ds.length
      · rw [if_pos hz] at e1; cases e1
      · rw [if_neg hz] at e1; cases e1
theorem ok_wp {x qual : Str} {st : Stmt} {f : Addr} {fd : FuncData} {N ps : List Str} {k : Nat} {R : List D → D → Prop} (F : Fun K x qual st f fd) (S : FnScope N ps (defScope st)) (len : ∀ ds d, R ds d → ds.length = ps.length)
    (hb : ∀ (cdv : Value) (A : Around) (outer : List Env) (s : Shared) (H : Hp) (E : XK), Room k (A.deeper (PyProof.Rows.envOfC qual (defScope st) s.heap.objs.size f cdv)) →
      ∃ t, PSs (cxOf CX0 P w K mg base N qual (defScope st) f cdv A outer s H E).nox (defBody st) t ∧ ∀ ds d, R ds d → WP K t { nx := fun _ => PyData.none = d, rt := fun d' => d' = d } (startD N ds)) : FnOk P w K mg base CX0 (k + 1) f fd ps (spD K R) := by
  refine F.ok S (fun vs H Q E h => ?_) (fun cdv A outer s H vs Q E hr h => ?_)
  · obtain ⟨B, ds, d, r, bh, a, _⟩ := h
    rw [a.len]; exact len ds d r
  · obtain ⟨t, ht, q⟩ := hb cdv A outer s H E hr
    refine ⟨t, ht, ?_⟩
    obtain ⟨B, ds, d, r, bh, a, hq⟩ := h
    refine q ds d r B H B H _ _ ⟨fun σ' H' B' δ' S' e => ?_, fun v B' H' d' hh dv e => ?_, fun _ _ _ _ _ z => z.elim, fun _ _ _ _ _ z => z.elim⟩ (start_sd bh a)
    · subst e
      exact hq _ B' H' ⟨S'.hist.bb, S'.hist.bh, S'.hist.hh, S'.hist.fr⟩ .non
    · subst e
      exact hq v B' H' ⟨hh.bb, hh.bh, hh.hh, hh.fr⟩ dv
end
end DX

namespace DX
open PySem L2

/-! ### rules with the written part named -/
section
variable {X : Cx} {K : PySem.W.Frag} {tg l e : Expr} {tl te : TE} {pos : Pos}
theorem kx_ix (hK : X.K = K := by rfl) : IxR X (rIx K) := by subst hK; exact ix_seq
theorem kx_sl (hK : X.K = K := by rfl) : SlR X (rSlL K) := by subst hK; exact sl_list
theorem kx_len (hK : X.K = K := by rfl) : CallR X (.builtin "len") (rLenQ K) := by subst hK; exact cr_lenQ
theorem kx_list (hK : X.K = K := by rfl) : CallR X (.type "list") (rListQ K) := by subst hK; exact cr_listQ
theorem kx_tuple (hK : X.K = K := by rfl) : CallR X (.type "tuple") (rTupleQ K) := by subst hK; exact cr_tupleQ
theorem kx_isi (hK : X.K = K := by rfl) : CallR X (.builtin "isinstance") (rIsi K) := by subst hK; exact call_isi
theorem kx_sum (hK : X.K = K := by rfl) (hc : X.calm = true := by rfl) : CallR X (.builtin "sum") (rSum K) := by subst hK; exact cr_sum hc
theorem kx_all (hK : X.K = K := by rfl) (hc : X.calm = true := by rfl) : CallR X (.builtin "all") (rAll K) := by subst hK; exact cr_all hc
theorem kx_any (hK : X.K = K := by rfl) (hc : X.calm = true := by rfl) : CallR X (.builtin "any") (rAny K) := by subst hK; exact cr_any hc
theorem kx_eq (hu : X.A.units + 64 < cLine) (hK : X.K = K := by rfl) : OpR X (compareOp .Eq) (rEqD K) := by subst hK; exact op_eqD hu
theorem kx_ne (hu : X.A.units + 64 < cLine) (hK : X.K = K := by rfl) : OpR X (compareOp .NotEq) (rNeD K) := by subst hK; exact op_neD hu
theorem kpi_list (hl : PE X l tl) (hK : X.K = K := by rfl) : PI X tg l (iList K tl) := by subst hK; exact pi_list hl
theorem kpi_tup (hl : PE X l tl) (hK : X.K = K := by rfl) : PI X tg l (iTup K tl) := by subst hK; exact pi_tup hl
theorem kpg_tup {es : List Expr} {k : Nat} {t : TGs} {n : Nat} (hc : X.calm = true) (h : PGs X es t) (hK : X.K = K := by rfl)
    (hn : (assignEach es X.env).length = n := by rfl) (hst : (assignEach es X.env).findIdx? (·.1) = none := by rfl) : PG X (.Tuple es k pos) (gTup K n t) := by subst hK; exact pg_tup hc h hn hst
theorem kpe_rev {k : Nat} {p1 p2 p3 : Pos} (he : PE X e te) (hK : X.K = K := by rfl) : PE X (.Subscript e (.Slice none none (some (.UnaryOp .USub (.Constant (.int 1) k p1) p2)) p3) pos) (tRevL K te) := by subst hK; exact pe_revL he
end
/-! ### data that may be compared -/
def Shp (n : Nat) (d : D) : Prop := d.canLay0 = true ∧ d.depth ≤ n
theorem Shp.shaped {n : Nat} {d : D} (h : Shp n d) (hn : n ≤ 64 := by decide) : SeqAt.shaped d = true := by
  unfold SeqAt.shaped
  rw [h.1, Bool.true_and]
  exact decide_eq_true (Nat.le_trans h.2 hn)
theorem shp_int {n : Nat} {i : Int} : Shp n (.int i) := by
  refine ⟨by simp only [PyData.canLay0], ?_⟩
  simp only [PyData.depth]; omega
theorem shp_bool {n : Nat} {b : Bool} : Shp n (.bool b) := by
  refine ⟨by simp only [PyData.canLay0], ?_⟩
  simp only [PyData.depth]; omega
theorem shp_none {n : Nat} : Shp n .none := by
  refine ⟨by simp only [PyData.canLay0], ?_⟩
  simp only [PyData.depth]; omega
theorem shp_all {n : Nat} : ∀ {ds : List D}, (∀ d ∈ ds, Shp n d) → PyData.canLayAll0 ds = true ∧ PyData.depthAll ds ≤ n
  | [], _ => ⟨by simp only [PyData.canLayAll0], by simp only [PyData.depthAll]; omega⟩
  | d :: ds, h => by
    obtain ⟨a, b⟩ := h d (List.mem_cons_self ..)
    obtain ⟨c, e⟩ := shp_all (ds := ds) fun x hx => h x (List.mem_cons_of_mem _ hx)
    refine ⟨?_, ?_⟩
    · simp only [PyData.canLayAll0, a, c, Bool.and_self]
    · simp only [PyData.depthAll]; omega
theorem shp_list {n : Nat} {ds : List D} (h : ∀ d ∈ ds, Shp n d) : Shp (n + 1) (.list ds) := by
  obtain ⟨a, b⟩ := shp_all h
  refine ⟨by simp only [PyData.canLay0, a], ?_⟩
  simp only [PyData.depth]; omega
theorem shp_tup {n : Nat} {ds : List D} (h : ∀ d ∈ ds, Shp n d) : Shp (n + 1) (.tuple ds) := by
  obtain ⟨a, b⟩ := shp_all h
  refine ⟨by simp only [PyData.canLay0, a], ?_⟩
  simp only [PyData.depth]; omega
theorem shp_map {α : Type} {n : Nat} {xs : List α} {g : α → D} (h : ∀ x, Shp n (g x)) : ∀ d ∈ xs.map g, Shp n d := fun d hd => by
  obtain ⟨x, _, rfl⟩ := List.mem_map.mp hd
  exact h x
theorem shp_ints {n : Nat} {ns : List Int} : Shp (n + 1) (.list (ns.map PyData.int)) := shp_list (shp_map fun _ => shp_int)
theorem shp_tints {n : Nat} {ns : List Int} : Shp (n + 1) (.tuple (ns.map PyData.int)) := shp_tup (shp_map fun _ => shp_int)
theorem eqv_self {n : Nat} {d : D} (h : Shp n d) : PyData.eqv d d = true := PySem.SeqAt.eqv_refl d h.1

section
variable {K : PySem.W.Frag} {δ δ' δ'' : List SV} {ta tb te : TE} {c : TT} {t u : TS} {d x y : D} {ds es : List D} {E : EndsD}
theorem wp_cut (C : List SV → Prop) (h : WP K t { E with nx := C } δ) (q : ∀ δ', C δ' → E.nx δ') : WP K t E δ := fun B0 H0 B H σ D L S =>
  h B0 H0 B H σ D ⟨fun σ' H' B' δ' S' z => L.nx σ' H' B' δ' S' (q δ' z), L.rt, L.bk, L.ct⟩ S
theorem ei_rngN {n : Nat} {i : Int} (h : ED K te δ (.int i)) (e : i = (n : Int)) (hn : n ≤ 1000000) : EI K (iRng1 (tCons te tNil)) δ ((List.range n).map fun k => PyData.int (k : Nat)) := by
  subst e
  refine EI.of (ei_rng1 h (by omega)) ?_
  unfold rngD
  rw [Int.toNat_natCast]
  congr 1
  funext k
  rw [Int.zero_add]
/-! ### expressions that give some datum -/
def EP (K : PySem.W.Frag) (te : TE) (δ : List SV) (P : D → Prop) : Prop := ∀ (B0 H0 B H : Hp) (σ : L2.St) (Q : VK), Sd K B0 H0 B H σ δ → (∀ v B' H' d, Stp B H B' H' → Dq K B' v d → P d → Q v H') → te σ H Q
theorem ED.ep (h : ED K te δ d) : EP K te δ (fun x => x = d) := fun B0 H0 B H σ Q S q => h B0 H0 B H σ Q S fun v B' H' s a => q v B' H' d s a rfl
def spP (K : PySem.W.Frag) (Pre : List D → Prop) (Post : List D → D → Prop) : Sp := fun vs H Q _ => ∃ B ds, Pre ds ∧ Same B H ∧ DqAll K B vs ds ∧ ∀ v B' H' d, Stp B H B' H' → Dq K B' v d → Post ds d → Q v H'
theorem ep_call {ta : TA} {Pre : List D → Prop} {Post : List D → D → Prop} {X : XK} (h : EA K ta δ ds) (r : Pre ds) : EP K (tCall (spP K Pre Post) [] X ta) δ (Post ds) := fun B0 H0 B H σ Q S q =>
  h B0 H0 B H σ _ S fun vs B1 H1 s1 a => ⟨B1, ds, r, s1.bh, by rw [List.append_nil]; exact a, fun v B' H' d s2 b p => q v B' H' d (s1.trans s2) b p⟩
theorem wp_asgP {i : Nat} {P : D → Prop} (h : EP K te δ P) (q : ∀ d, P d → E.nx (δ.set i (.val d))) : WP K (tAsg te (gName i)) E δ := fun B0 H0 B H σ D L S =>
  h B0 H0 B H σ _ S fun v B1 H1 d s1 a p => L.nx _ H1 B1 _ ((S.step s1).setVal a) (q d p)
theorem wp_retP {P : D → Prop} (h : EP K te δ P) (q : ∀ d, P d → E.rt d) : WP K (tRet te) E δ := fun B0 H0 B H σ D L S =>
  h B0 H0 B H σ _ S fun v B1 H1 d s1 a p => L.rt v B1 H1 d (s1.hist S.hist) a (q d p)
end

theorem cx_K {CX : CXT} {P : Program} {w : World} {K : PySem.W.Frag} {mg : Str → Option Value} {base : Heap} {N : List Str} {q : Str} {sc : Scope} {f : Addr} {cd : Value} {A : Around} {outer : List Env} {s : Shared} {H : Hp} {E : XK} :
    (cxOf CX P w K mg base N q sc f cd A outer s H E).K = K := rfl
theorem nox_K {X : Cx} : X.nox.K = X.K := rfl
theorem blk_K {X : Cx} {s : Shared} {H : Hp} {sc : Scope} {e : Env} {fp : List Addr} : (X.blk s H sc e fp).K = X.K := rfl
/-! ### sizes -/
def Lt (k : Nat) (n : Int) : Prop := n.natAbs < 2 ^ k
theorem Lt.mono {a b : Nat} {n : Int} (h : Lt a n) (e : a ≤ b := by decide) : Lt b n := Nat.lt_of_lt_of_le h (Nat.pow_le_pow_right (by decide) e)
theorem Lt.mul {a b : Nat} {i j : Int} (h : Lt a i) (h' : Lt b j) : Lt (a + b) (i * j) := wide_lt h h'
theorem Lt.add {k : Nat} {i j : Int} (h : Lt k i) (h' : Lt k j) : Lt (k + 1) (i + j) := by
  unfold Lt at *
  rw [Nat.pow_succ]
  omega
theorem Lt.sub {k : Nat} {i j : Int} (h : Lt k i) (h' : Lt k j) : Lt (k + 1) (i - j) := by
  unfold Lt at *
  rw [Nat.pow_succ]
  omega
theorem Lt.neg {k : Nat} {i : Int} (h : Lt k i) : Lt k (-i) := by
  unfold Lt at *
  omega
theorem Lt.le {k : Nat} {i j : Int} (h : Lt k j) (e : i.natAbs ≤ j.natAbs) : Lt k i := Nat.lt_of_le_of_lt e h
theorem mulX {i j : Int} {a b : Nat} (h : Lt a i) (h' : Lt b j) (ha : 0 < a := by decide) (hb : 0 < b := by decide) (hl : a + b ≤ 1000000 := by decide) : CMulX i j := .inr (wide_mul h h' ha hb hl)
theorem mulL {i j : Int} (h : -(2 ^ 64) < i ∧ i < 2 ^ 64) : CMulX i j := .inl (.inl h)
theorem mulR {i j : Int} (h : -(2 ^ 64) < j ∧ j < 2 ^ 64) : CMulX i j := .inl (.inr h)
theorem divX {i j : Int} {k : Nat} (h : j ≠ 0) (hl : Lt k j) (hk : k ≤ 9000 := by decide) (h0 : 0 < k := by decide) : CDivX i j := ⟨h, Nat.lt_of_lt_of_le (PySem.Flt.log2_lt_of h0 hl) hk⟩
theorem powX {i j : Int} (h : 0 ≤ j ∧ j ≤ 1000000 ∧ i.natAbs < 2 ^ 64) : CPow i j := h
theorem gcd_pos {n m : Int} (h : m ≠ 0) : 0 < Nat.gcd n.natAbs m.natAbs := Nat.gcd_pos_of_pos_right _ (Int.natAbs_pos.mpr h)
theorem gcd_le {n m : Int} (h : m ≠ 0) : Nat.gcd n.natAbs m.natAbs ≤ m.natAbs := Nat.gcd_le_right _ (Int.natAbs_pos.mpr h)

/-! ### numbers -/
def numV (p : Int × Int) : D := .tuple [.int p.1, .int p.2]
theorem shp_num {n : Nat} {p : Int × Int} : Shp (n + 1) (numV p) := shp_tup fun d hd => by
  rcases List.mem_cons.mp hd with rfl | hd
  · exact shp_int
  · rcases List.mem_cons.mp hd with rfl | hd
    · exact shp_int
    · cases hd
/-- the divisor by which n / m is brought to lowest terms, m's sign with it -/
def dvs (n m : Int) : Int := if m < 0 then -(Nat.gcd n.natAbs m.natAbs : Nat) else (Nat.gcd n.natAbs m.natAbs : Nat)
def nrm (n m : Int) : Int × Int := (n.fdiv (dvs n m), m.fdiv (dvs n m))
theorem dvs_abs (n m : Int) : (dvs n m).natAbs = Nat.gcd n.natAbs m.natAbs := by
  unfold dvs
  split <;> omega
theorem dvs_ne {n m : Int} (h : m ≠ 0) : dvs n m ≠ 0 := by
  have := gcd_pos (n := n) h
  have e := dvs_abs n m
  omega
theorem dvs_dvdl (n m : Int) : dvs n m ∣ n := by
  rw [← Int.natAbs_dvd_natAbs, dvs_abs]
  exact Nat.gcd_dvd_left _ _
theorem dvs_dvdr (n m : Int) : dvs n m ∣ m := by
  rw [← Int.natAbs_dvd_natAbs, dvs_abs]
  exact Nat.gcd_dvd_right _ _
theorem fdiv_of_dvd {a b : Int} (h : b ∣ a) : a.fdiv b * b = a := Int.fdiv_mul_cancel h
theorem nrm_mul1 (n m : Int) : (nrm n m).1 * dvs n m = n := fdiv_of_dvd (dvs_dvdl n m)
theorem nrm_mul2 (n m : Int) : (nrm n m).2 * dvs n m = m := fdiv_of_dvd (dvs_dvdr n m)
theorem nrm_pos {n m : Int} (h : m ≠ 0) : 0 < (nrm n m).2 := by
  have e := nrm_mul2 n m
  have hd := dvs_ne (n := n) h
  by_cases hm : m < 0
  · have hd2 : dvs n m < 0 := by
      unfold dvs at hd ⊢
      rw [if_pos hm] at hd ⊢
      omega
    by_cases hz : 0 < (nrm n m).2
    · exact hz
    · have := Int.mul_nonneg_of_nonpos_of_nonpos (a := (nrm n m).2) (b := dvs n m) (by omega) (by omega)
      omega
  · have hd2 : 0 < dvs n m := by
      unfold dvs at hd ⊢
      rw [if_neg hm] at hd ⊢
      omega
    have hm2 : 0 < m := by omega
    exact Int.pos_of_mul_pos_left (by rw [e]; exact hm2) hd2
end DX

namespace DX
open PySem L2
def rIsNQ : R2 := fun x y H Q => y = .non ∧ Q (.bl (decide (x = .non))) H
def rNotNQ : R2 := fun x y H Q => y = .non ∧ Q (.bl (!decide (x = .non))) H
def rLenDQ : List V → Hp → VK → Prop := fun xs H Q => ∃ a kvs, xs = [V.ref a] ∧ Rd H a (.dK kvs) ∧ Q (.int kvs.length) H
def tTruQ (K : PySem.W.Frag) (ta : TE) : TT := fun σ H Q => ta σ H fun x H' => ∃ k, TruV K x H' k ∧ Q k H'
section
variable {X : Cx} {K : PySem.W.Frag}
theorem op_isNQ : OpR X (compareOp .Is) rIsNQ := op_isN
theorem op_notNQ : OpR X (compareOp .IsNot) rNotNQ := op_notN
theorem cr_lenDQ : CallR X (.builtin "len") rLenDQ := by
  intro pins s σ H xs us Q I r h
  obtain ⟨a, kvs, rfl, ha, q⟩ := h
  obtain ⟨u, rfl, ru⟩ := vals1 r
  cases ru
  exact d_len I ha fun t s' I' => ⟨.int kvs.length, H, I', ⟨t, rfl⟩, q⟩
theorem kpt_truth {a : Expr} {ta : TE} (ha : PE X a ta) (he : ∀ whole, isTrue a X.env whole = (do let v ← whole; standAt a.pos; holding [v] (truthy v))) (hK : X.K = K := by rfl) : PT X a (tTruQ K ta) := by subst hK; exact pt_truth ha he
theorem kpi_zip {e e2 : Expr} {ta : TA} {p pos tpos : Pos} {elts : List Expr} {kk : Nat} (hg : Gl X "zip") (hm : X.mg "zip" = none) (ha : PA X [e, e2] ta) (hK : X.K = K := by rfl)
    (hs : starEach [e, e2] X.env = (false, eval e X.env) :: starEach [e2] X.env := by rfl) (hpl : (backTo pos (starEach [e2] X.env)).any (·.1) = false := by rfl) : PI X (.Tuple elts kk tpos) (.Call (.Name "zip" p) [e, e2] [] pos) (iZip K ta) := by subst hK; exact pi_zip hg hm ha hs hpl
theorem kpi_enum {e : Expr} {ta : TA} {p pos tpos : Pos} {elts : List Expr} {kk : Nat} (hg : Gl X "enumerate") (hm : X.mg "enumerate" = none) (ha : PA X [e] ta) (hK : X.K = K := by rfl) (hs : starEach [e] X.env = [(false, eval e X.env)] := by rfl) :
    PI X (.Tuple elts kk tpos) (.Call (.Name "enumerate" p) [e] [] pos) (iEnum K ta) := by subst hK; exact pi_enum hg hm ha hs
end
section
variable {K : PySem.W.Frag} {δ δ' : List SV} {ta tb te : TE} {c : TT} {t u : TS} {d x y : D} {ds es : List D} {E : EndsD}
def isNone : D → Bool
  | .none => true
  | _ => false
theorem dq_none {H : Hp} {v : V} (h : Dq K H v d) : decide (v = .non) = isNone d := by
  cases h with
  | non => rfl
  | _ => exact decide_eq_false fun z => nomatch z
theorem ed_isN (h : ED K ta δ d) : ED K (tOp rIsNQ ta (tC .non)) δ (.bool (isNone d)) := fun B0 H0 B H σ Q S q =>
  h B0 H0 B H σ _ S fun v B1 H1 s1 a => ⟨rfl, by rw [dq_none a]; exact q _ B1 H1 s1 (.bl _)⟩
theorem ed_notN (h : ED K ta δ d) : ED K (tOp rNotNQ ta (tC .non)) δ (.bool (!isNone d)) := fun B0 H0 B H σ Q S q =>
  h B0 H0 B H σ _ S fun v B1 H1 s1 a => ⟨rfl, by rw [dq_none a]; exact q _ B1 H1 s1 (.bl _)⟩
/-- truth -/
def truD : D → Option Bool
  | .none => some false
  | .bool b => some b
  | .int i => some (i != 0)
  | .list ds => some (!ds.isEmpty)
  | .tuple ds => some (!ds.isEmpty)
  | _ => none
theorem emp_len {α β : Type} {xs : List α} {ys : List β} (h : xs.length = ys.length) : xs.isEmpty = ys.isEmpty := by
  cases xs <;> cases ys <;> first | rfl | (simp at h)
theorem et_truth {b : Bool} (h : ED K te δ d) (e : truD d = some b) : ET K (tTruQ K te) δ b := fun B0 H0 B H σ Q S q =>
  h B0 H0 B H σ _ S fun v B1 H1 s1 a => by
    refine ⟨b, ?_, q B1 H1 s1⟩
    cases a with
    | non => cases e; rfl
    | bl c => cases e; rfl
    | int i => cases e; rfl
    | str z => cases e
    | lst hs hA =>
      cases e
      exact .inl ⟨_, s1.bh.seq hs, by rw [emp_len hA.len]⟩
    | tup hs hA =>
      cases e
      exact .inr (.inl ⟨_, sqT_up s1.bh hs, by rw [emp_len hA.len]⟩)
    | dct hs hA => cases e
/-- len of a dict -/
theorem ed_lenD {kvs : List (D × D)} (h : ED K te δ (.dict kvs)) : ED K (tCB rLenDQ (tCons te tNil)) δ (.int kvs.length) :=
  ed_cb (ea_cons h ea_nil) fun B H vs Q bh a q => by
    obtain ⟨v, rfl, b⟩ := a.one
    cases b with
    | dct hs hA => exact ⟨_, _, rfl, rd_up bh hs, q _ B H (.refl bh) (by rw [hA.len]; exact .int _)⟩
/-- a range's item, two lists at once, the items with their places -/
theorem stp_tup {B H : Hp} {T : Addr} {vs : List V} (bh : Same B H) (n : H T = none) : Stp B H (upd B T (.tup vs)) (upd H T (.tup vs)) := .new bh n
def zipD (ds es : List D) : List D := (ds.zip es).map fun p => .tuple [p.1, p.2]
theorem ei_zip (h : ED K ta δ (.list ds)) (h' : ED K tb δ (.list es)) : EI K (iZip K (tCons ta (tCons tb tNil))) δ (zipD ds es) := fun B0 H0 B H σ R S q =>
  h B0 H0 B H σ _ S fun v B1 H1 s1 a => h' B0 H0 B1 H1 σ _ (S.step s1) fun w B2 H2 s2 b => by
    cases a with
    | lst hs hA =>
      cases b with
      | lst ks kA =>
        have hA2 := DqAll.up s2.bb _ _ hA
        have hs2 := s2.bb.seq hs
        refine ⟨_, _, _, _, rfl, s2.bh.seq hs2, s2.bh.seq ks, q _ B2 H2 (s1.trans s2) fun B H i e1 e2 => ⟨fun hi => ?_, fun hi => ?_⟩⟩
        · have hl : i < (ds.zip es).length := by
            unfold zipD at hi
            rwa [List.length_map] at hi
          rw [List.length_zip] at hl
          obtain ⟨x, g1, g2⟩ := hA2.get (List.getElem?_eq_getElem (show i < ds.length by omega))
          obtain ⟨y, k1, k2⟩ := kA.get (List.getElem?_eq_getElem (show i < es.length by omega))
          refine ⟨⟨_, _, x, y, (e1.trans e2).seq hs2, (e1.trans e2).seq ks, g1, k1⟩, fun z H' yl => ?_⟩
          obtain ⟨T, x', y', rfl, nT, rfl, f1, f2⟩ := yl
          have ex := (f1 _ ((e1.trans e2).seq hs2)).symm.trans g1
          have ey := (f2 _ ((e1.trans e2).seq ks)).symm.trans k1
          cases ex; cases ey
          have sn := same_new (o := .tup [x, y]) (e2.free nT)
          refine ⟨upd B T (.tup [x, y]), _, .new e2 nT, ?_, .tup (.inl (.inl upd_same)) (.cons (Dq.up (e1.trans sn) _ _ g2) (.cons (Dq.up (e1.trans sn) _ _ k2) .nil))⟩
          unfold zipD
          have h1 : i < ds.length := by omega
          have h2 : i < es.length := by omega
          have hz : (ds.zip es)[i]? = some (ds[i], es[i]) := by
            rw [List.getElem?_zip_eq_some]
            exact ⟨List.getElem?_eq_getElem h1, List.getElem?_eq_getElem h2⟩
          rw [List.getElem?_map, hz]
          rfl
        · refine ⟨_, _, (e1.trans e2).seq hs2, (e1.trans e2).seq ks, ?_⟩
          unfold zipD at hi
          rw [List.length_map, List.length_zip] at hi
          rw [hA2.len, kA.len]
          omega
def enumD (ds : List D) : List D := (List.range ds.length).map fun i => .tuple [.int (i : Nat), ds.getD i .none]
theorem ei_enum (h : ED K ta δ (.list ds)) : EI K (iEnum K (tCons ta tNil)) δ (enumD ds) := fun B0 H0 B H σ R S q =>
  h B0 H0 B H σ _ S fun v B1 H1 s1 a => by
    cases a with
    | lst hs hA =>
      refine ⟨_, _, rfl, s1.bh.seq hs, q _ B1 H1 s1 fun B H i e1 e2 => ⟨fun hi => ?_, fun hi => ?_⟩⟩
      · have hl : i < ds.length := by
          unfold enumD at hi
          rwa [List.length_map, List.length_range] at hi
        obtain ⟨x, g1, g2⟩ := hA.get (List.getElem?_eq_getElem hl)
        refine ⟨⟨_, x, (e1.trans e2).seq hs, g1⟩, fun z H' yl => ?_⟩
        obtain ⟨T, x', rfl, nT, rfl, f1⟩ := yl
        have ex := (f1 _ ((e1.trans e2).seq hs)).symm.trans g1
        cases ex
        have sn := same_new (o := .tup [.int (i : Nat), x]) (e2.free nT)
        refine ⟨upd B T (.tup [.int (i : Nat), x]), _, .new e2 nT, ?_, .tup (.inl (.inl upd_same)) (.cons (.int _) (.cons (Dq.up (e1.trans sn) _ _ g2) .nil))⟩
        unfold enumD
        rw [List.getElem?_map, List.getElem?_range hl]
        show some (PyData.tuple [.int (i : Nat), ds.getD i .none]) = _
        rw [List.getD_eq_getElem?_getD, List.getElem?_eq_getElem hl]
        rfl
      · refine ⟨_, (e1.trans e2).seq hs, ?_⟩
        unfold enumD at hi
        rw [List.length_map, List.length_range] at hi
        rw [hA.len]; omega
theorem tyes_true {σ : L2.St} {H : Hp} {Q : Bool → Hp → Prop} (h : Q true H) : tYes σ H Q := h
/-- a comprehension with a pair of names -/
theorem en_lc2 {α : Type} {xs : List α} {g1 g2 : α → D} {wi : TI} {i j : Nat} {f : α → D} (hij : i ≠ j) (hw : EI K wi δ (xs.map fun x => .tuple [g1 x, g2 x])) (hl : xs.length ≤ sizeLine)
    (he : ∀ x, x ∈ xs → ED K te ((((δ.set j .no).set i .no).set i (.val (g1 x))).set j (.val (g2 x))) (f x)) : EN K (tLc wi (gTup K 2 (gCons (gName i) (gCons (gName j) gNil))) tYes te [i, j]) δ (xs.map f) := fun B0 H0 B H σ Q S q =>
  hw B0 H0 B H σ _ S fun J B1 H1 s1 yd L nL => by
    have S1 := S.step s1
    refine ⟨fun k m H' => m = xs.length - k ∧ k ≤ xs.length ∧ ∃ B' acc, Sd K B1 H0 B' H' σ δ ∧ B' L = none ∧ H' L = some (.lst acc) ∧ DqAll K B' acc ((xs.take k).map f) ∧ Stp B1 H1 B' H', ⟨_, rfl, Nat.zero_le _, B1, [], ?_, s1.bh.free nL, upd_same, ?_, .newOwn s1.bh nL⟩, ?_⟩
    · exact (S1.past S1.hist.bb (Same.refl _)).step (.newOwn s1.bh nL)
    · rw [List.take_zero]; exact .nil
    rintro k m H' ⟨rfl, hk, B', acc, S', bL, hL, hA, sp⟩
    obtain ⟨y1, y2⟩ := yd B' H' k S'.hist.bb S'.hist.bh
    by_cases hlt : k < xs.length
    · obtain ⟨go, yy⟩ := y1 (by rw [List.length_map]; exact hlt)
      refine .inr ⟨go, fun H'' => ∃ B'' acc, Sd K B1 H0 B'' H'' σ δ ∧ B'' L = none ∧ H'' L = some (.lst acc) ∧ DqAll K B'' acc ((xs.take (k + 1)).map f) ∧ Stp B1 H1 B'' H'', fun H'' z => ⟨xs.length - (k + 1), by omega, rfl, hlt, z⟩, fun x H2 yl => ?_⟩
      obtain ⟨B2, d', s2, ed', dp⟩ := yy x H2 yl
      have ed : xs[k]? = some xs[k] := List.getElem?_eq_getElem hlt
      have eg : d' = .tuple [g1 xs[k], g2 xs[k]] := by
        rw [List.getElem?_map, ed] at ed'
        exact (Option.some.inj ed').symm
      subst eg
      have hm : xs[k] ∈ xs := List.getElem_mem hlt
      have hLne : H' L ≠ none := by rw [hL]; exact fun z => nomatch z
      have S2 := S'.step s2
      cases dp with
      | tup hs hA2 =>
        obtain ⟨v1, v2, rfl, a1, a2⟩ := hA2.two
        have S3 : Sd K B1 H0 B2 H2 ((((σ.set j none).set i none).set i (some v1)).set j (some v2)) ((((δ.set j .no).set i .no).set i (.val (g1 xs[k]))).set j (.val (g2 xs[k]))) := (((S2.forget (i := j) (o := none)).forget (i := i) (o := none)).setVal a1).setVal a2
        refine ⟨_, _, rfl, sqT_up s2.bh hs, rfl, v1, [v2], rfl, v2, [], rfl, rfl, ?_, ?_⟩
        · show ((((((σ.set j none).set i none).set i (some v1)).set j (some v2)).set j none).set i none) = (σ.set j none).set i none
          rw [List.set_set, List.set_set, List.set_comm _ _ hij, List.set_set, List.set_set]
        refine tyes_true ?_
        dsimp only
        rw [if_pos rfl]
        refine he _ hm B1 H0 B2 H2 _ _ S3 fun v B4 H4 s4 dv => ?_
        have st := s2.trans s4
        have hL4 : H4 L = some (.lst acc) := st.hh _ _ hL
        have bL4 : B4 L = none := st.fr L hLne bL
        have hA4 := DqAll.up st.bb _ _ hA
        refine ⟨acc, hL4, ?_, B4, acc ++ [v], ?_, bL4, upd_same, ?_, ?_⟩
        · have h1 := hA.len
          rw [List.length_map, List.length_take] at h1
          omega
        · have S4 := (S'.step st)
          refine ⟨⟨S4.hist.bb, fun a o ea => ?_, fun a o ea => ?_, S4.hist.fr⟩, S4.len, fun j z ej => ?_, S4.apart⟩
          · have : a ≠ L := fun z => by subst z; rw [bL4] at ea; cases ea
            rw [upd_ne this]; exact S4.hist.bh _ _ ea
          · have : a ≠ L := fun z => by
              subst z
              have := S1.hist.hh _ _ ea
              rw [nL] at this; cases this
            rw [upd_ne this]; exact S4.hist.hh _ _ ea
          · obtain ⟨o, eo, ok⟩ := S4.ok j z ej
            refine ⟨o, eo, ?_⟩
            cases z with
            | no => exact True.intro
            | val d => exact ok
            | own es =>
              obtain ⟨pp, vs, e1, e2, e3, e4, e5⟩ := ok
              have hne : pp ≠ L := fun z => by
                subst z
                obtain ⟨o', eo', ok'⟩ := S1.ok j _ ej
                obtain ⟨pp', vs', f1, f2, _⟩ := ok'
                rw [eo] at eo'; cases eo'
                rw [e1] at f1; cases f1
                rw [nL] at f2; cases f2
              exact ⟨pp, vs, e1, by rw [upd_ne hne]; exact e2, e3, e4, e5⟩
        · rw [List.take_add_one, ed, List.map_append]
          exact hA4.app (.cons dv .nil)
        · have sq := sp.trans st
          refine ⟨sq.bb, fun a o ea => ?_, fun a o ea => ?_, sq.fr⟩
          · have : a ≠ L := fun z => by subst z; rw [bL4] at ea; cases ea
            rw [upd_ne this]; exact sq.bh _ _ ea
          · have : a ≠ L := fun z => by subst z; rw [nL] at ea; cases ea
            rw [upd_ne this]; exact sq.hh _ _ ea
    · have e : k = xs.length := by omega
      subst e
      rw [List.take_length] at hA
      exact .inl ⟨y2 (by rw [List.length_map]), q L acc B' H' (s1.trans sp) (s1.hh.free nL) bL hL hA⟩
/-! ### dicts -/
theorem wp_newDict {i : Nat} (q : E.nx (δ.set i (.own (.m [])))) : WP K (tAsg tDNewK (gName i)) E δ := fun B0 H0 B H σ D L S => fun p np => by
  have s1 : Stp B H B (upd H p (.dK [])) := .newOwn S.hist.bh np
  refine L.nx _ _ B _ ((S.step s1).set (x := .own (.m [])) (show SlotOk K B (upd H p (.dK [])) H0 (some (.ref p)) (.own (.m [])) from ⟨p, .dK [], rfl, upd_same, S.hist.bh.free np, S.hist.hh.free np, [], rfl, .nil⟩) fun es _ j pp es' _ e1 e2 e3 => ?_) q
  cases e1
  obtain ⟨p', vs', a1, a2, _⟩ := S.slotObj e2
  rw [e3] at a1; cases a1
  rw [np] at a2; cases a2
theorem dqkv_app {B : Hp} : ∀ {vs ws : List (Key × V)} {ds es : List (D × D)}, DqKv K B vs ds → DqKv K B ws es → DqKv K B (vs ++ ws) (ds ++ es)
  | _, _, [], _, h, h' => by cases h; exact h'
  | _, _, d :: ds, _, h, h' => by
    cases h with
    | cons h1 h2 h3 => exact .cons h1 h2 (dqkv_app h3 h')
theorem dqkv_new {B : Hp} {k : Int} : ∀ {vs : List (Key × V)} {ds : List (D × D)}, DqKv K B vs ds → (∀ p ∈ ds, p.1 ≠ .int k) → valV vs (Sum.inl k) = none
  | _, [], h, _ => by cases h; rfl
  | _, d :: ds, h, hn => by
    cases h with
    | @cons key v vs e d' ds h1 h2 h3 =>
      rw [valV_neg, dqkv_new h3 fun p hp => hn p (List.mem_cons_of_mem _ hp)]
      intro z
      have z : key = Sum.inl k := z
      subst z
      exact hn _ (List.mem_cons_self ..) (by cases h1; rfl)
/-- d[k] = v, k a new int -/
theorem wp_dputNew {i : Nat} {k : Int} {kvs : List (D × D)} (e : δ[i]? = some (.own (.m kvs))) (hk : ED K tb δ (.int k)) (hv : ED K te δ d) (hn : ∀ p ∈ kvs, p.1 ≠ .int k) (hl : kvs.length < sizeLine) (q : E.nx (δ.set i (.own (.m (kvs ++ [(.int k, d)]))))) :
    WP K (sDPut (tVar i) tb te) E δ := fun B0 H0 B H σ D L S =>
  hv B0 H0 B H σ _ S fun v B1 H1 s1 a => by
    have S1 := S.step s1
    obtain ⟨p, vs, a1, hp, bp, h0, dp⟩ := S1.slotMap e
    refine ⟨_, a1, hk B0 H0 B1 H1 σ _ S1 fun w B2 H2 s2 b => ?_⟩
    cases Dq.int_inv b
    have S2 := S1.step s2
    obtain ⟨p', vs', a1', hp', bp', h0', dp'⟩ := S2.slotMap e
    rw [a1] at a1'; cases a1'
    refine ⟨p, _, rfl, DPut.k (k := Sum.inl k) hp' (by rw [dp'.len]; exact hl), ?_⟩
    rw [putK_new _ (dqkv_new dp' hn)]
    exact L.nx _ _ B2 _ (own_upd (yo := .m _) S2 e a1 bp' h0' ⟨_, rfl, dqkv_app dp' (.cons (.int _) (Dq.up s2.bb _ _ a) .nil)⟩) q
theorem Sd.freezeD {B0 H0 B H : Hp} {σ : L2.St} {i : Nat} {kvs : List (D × D)} (S : Sd K B0 H0 B H σ δ) (e : δ[i]? = some (.own (.m kvs))) : ∃ B', Sd K B0 H0 B' H σ (δ.set i (.val (.dict kvs))) ∧ Same B B' := by
  obtain ⟨p, vs, a1, hp, bp, h0, dp⟩ := S.slotMap e
  obtain ⟨k1, k2⟩ := Stp.know (o := .dK vs) S.hist.bh bp hp
  refine ⟨upd B p (.dK vs), ⟨⟨S.hist.bb.trans k1, k2, S.hist.hh, fun a q z => ?_⟩, by rw [List.length_set]; exact S.len, fun j s ej => ?_, fun j k q es fs n e1 e2 e3 e4 => ?_⟩, k1⟩
  · have : a ≠ p := fun e => by subst e; exact q h0
    rw [upd_ne this]; exact S.hist.fr a q z
  · rcases get_set ej with ⟨rfl, rfl⟩ | ⟨hne, ej⟩
    · exact ⟨_, a1, .ref p, rfl, .dct (.inl upd_same) (DqKv.up k1 _ _ dp)⟩
    · obtain ⟨o, eo, ok⟩ := S.ok j s ej
      refine ⟨o, eo, ?_⟩
      cases s with
      | no => exact True.intro
      | val d => obtain ⟨v, e1, e2⟩ := ok; exact ⟨v, e1, Dq.up k1 _ _ e2⟩
      | own es =>
        obtain ⟨pp, ws, e1, e2, e3, e4, e5⟩ := ok
        have hne2 : pp ≠ p := fun z => by
          subst z
          subst e1
          exact S.apart i j pp (.m kvs) es hne e ej a1 eo
        exact ⟨pp, ws, e1, e2, by rw [upd_ne hne2]; exact e3, e4, e5.up k1⟩
  · rcases get_set e1 with ⟨_, z⟩ | ⟨_, e1⟩
    · cases z
    · rcases get_set e2 with ⟨_, z⟩ | ⟨_, e2⟩
      · cases z
      · exact S.apart j k q es fs n e1 e2 e3 e4
theorem wp_freezeD (i : Nat) {kvs : List (D × D)} (e : δ[i]? = some (.own (.m kvs))) (h : WP K t E (δ.set i (.val (.dict kvs)))) : WP K t E δ := fun B0 H0 B H σ D L S => by
  obtain ⟨B', S', _⟩ := S.freezeD e
  exact h B0 H0 B' H σ D L S'
end
/-- a def by a promise of some datum -/
theorem ok_wpP {P : Program} {w : World} {K : PySem.W.Frag} {mg : Str → Option Value} {base : Heap} {x qual : Str} {st : Stmt} {f : Addr} {fd : FuncData} {N ps : List Str} {k : Nat} {Pre : List D → Prop} {Post : List D → D → Prop} (F : Fun K x qual st f fd) (S : FnScope N ps (defScope st)) (len : ∀ ds, Pre ds → ds.length = ps.length)
    (hb : ∀ (cdv : Value) (A : Around) (outer : List Env) (s : Shared) (H : Hp) (E : XK), Room k (A.deeper (PyProof.Rows.envOfC qual (defScope st) s.heap.objs.size f cdv)) →
      ∃ t, PSs (cxOf CX0 P w K mg base N qual (defScope st) f cdv A outer s H E).nox (defBody st) t ∧ ∀ ds, Pre ds → WP K t { nx := fun _ => Post ds .none, rt := fun d' => Post ds d' } (startD N ds)) : FnOk P w K mg base CX0 (k + 1) f fd ps (spP K Pre Post) := by
  refine F.ok S (fun vs H Q E h => ?_) (fun cdv A outer s H vs Q E hr h => ?_)
  · obtain ⟨B, ds, r, bh, a, _⟩ := h
    rw [a.len]; exact len ds r
  · obtain ⟨t, ht, q⟩ := hb cdv A outer s H E hr
    refine ⟨t, ht, ?_⟩
    obtain ⟨B, ds, r, bh, a, hq⟩ := h
    refine q ds r B H B H _ _ ⟨fun σ' H' B' δ' S' e => ?_, fun v B' H' d' hh dv e => ?_, fun _ _ _ _ _ z => z.elim, fun _ _ _ _ _ z => z.elim⟩ (start_sd bh a)
    · exact hq _ B' H' _ ⟨S'.hist.bb, S'.hist.bh, S'.hist.hh, S'.hist.fr⟩ .non e
    · exact hq v B' H' _ ⟨hh.bb, hh.bh, hh.hh, hh.fr⟩ dv e
end DX

namespace DX
open PySem L2
/-- a walk over a list or a tuple -/
def iSeq (K : PySem.W.Frag) (tl : TE) : TI := fun σ H R => iList K tl σ H R ∨ iTup K tl σ H R
theorem kpi_seq {X : Cx} {K : PySem.W.Frag} {tg l : Expr} {tl : TE} (hl : PE X l tl) (hK : X.K = K := by rfl) : PI X tg l (iSeq K tl) := by
  subst hK
  exact ⟨fun pins s σ H R I h => h.elim (fun h => (pi_list (tg := tg) hl).run pins s σ H R I h) fun h => (pi_tup (tg := tg) hl).run pins s σ H R I h⟩
theorem dqall_erase {K : PySem.W.Frag} {B : Hp} : ∀ (k : Nat) {vs : List V} {ds : List D}, DqAll K B vs ds → DqAll K B (vs.eraseIdx k) (ds.eraseIdx k)
  | _, _, [], h => by cases h; exact .nil
  | 0, _, d :: ds, h => by
    cases h with
    | cons h1 h2 => exact h2
  | k + 1, _, d :: ds, h => by
    cases h with
    | cons h1 h2 => exact .cons h1 (dqall_erase k h2)
section
variable {K : PySem.W.Frag} {δ δ' : List SV} {ta tb te : TE} {c : TT} {t u : TS} {d x y : D} {ds es : List D} {E : EndsD}
theorem ei_seq (h : ED K te δ x) (e : itemsD x = some ds) : EI K (iSeq K te) δ ds := by
  cases x with
  | list xs =>
    have e : xs = ds := Option.some.inj e
    subst e
    exact fun B0 H0 B H σ R S q => .inl (ei_list h B0 H0 B H σ R S q)
  | tuple xs =>
    have e : xs = ds := Option.some.inj e
    subst e
    exact fun B0 H0 B H σ R S q => .inr (ei_tup h B0 H0 B H σ R S q)
  | _ => cases e
def Scal : D → Prop
  | .none => True
  | .bool _ => True
  | .int _ => True
  | _ => False
theorem Scal.dq {B B' : Hp} {v : V} (s : Scal d) (h : Dq K B v d) : Dq K B' v d := by
  cases h with
  | non => exact .non
  | bl b => exact .bl b
  | int i => exact .int i
  | str x => exact .str x
  | lst _ _ => exact s.elim
  | tup _ _ => exact s.elim
  | dct _ _ => exact s.elim
/-- an owned list is read by an expression whose datum is no list -/
theorem ep_thaw {i : Nat} {P : D → Prop} (e : δ[i]? = some (.own (.l ds))) (h : EP K te (δ.set i (.val (.list ds))) P) (hs : ∀ d, P d → Scal d) : EP K te δ P := fun B0 H0 B H σ Q S q => by
  obtain ⟨p, vs, a1, hp, bp, h0, dp⟩ := S.slotOwn e
  obtain ⟨k1, k2⟩ := Stp.know (o := .lst vs) S.hist.bh bp hp
  have S2 := S.freezeAt e a1 hp bp h0 dp
  refine h B0 H0 _ H σ Q S2 fun v B2 H2 d s2 dv pd => ?_
  refine q v (fun a => if a = p then none else B2 a) H2 d ⟨fun a o ea => ?_, fun a o ea => ?_, s2.hh, fun a ha hb => ?_⟩ ((hs d pd).dq dv) pd
  · have : a ≠ p := fun z => by subst z; rw [bp] at ea; cases ea
    rw [if_neg this]
    exact s2.bb _ _ (k1 _ _ ea)
  · by_cases z : a = p
    · rw [if_pos z] at ea; cases ea
    · rw [if_neg z] at ea; exact s2.bh _ _ ea
  · by_cases z : a = p
    · rw [if_pos z]
    · rw [if_neg z]
      exact s2.fr a ha (by rw [upd_ne z]; exact hb)
/-- a = b, b's list is owned: b is forgotten -/
theorem wp_move {i j : Nat} {xo : OD} (hij : i ≠ j) (e : δ[j]? = some (.own xo)) (q : E.nx ((δ.set j .no).set i (.own xo))) : WP K (tAsg (tVar j) (gName i)) E δ := fun B0 H0 B H σ D L S => by
  obtain ⟨p, u, a1, hp, bp, h0, rep⟩ := S.slotObj e
  refine ⟨_, a1, L.nx _ H B _ ?_ q⟩
  have e1 : σ.set i (some (.ref p)) = (σ.set j (some (.ref p))).set i (some (.ref p)) := by
    have hj : j < σ.length := (List.getElem?_eq_some_iff.mp a1).1
    have : σ.set j (some (.ref p)) = σ := by
      apply List.ext_getElem?
      intro k
      by_cases hk : j = k
      · subst hk
        rw [List.getElem?_set_self hj, a1]
      · rw [List.getElem?_set_ne hk]
    rw [this]
  rw [e1]
  refine (S.forget (i := j) (o := some (.ref p))).set (x := .own xo) (show SlotOk K B H H0 (some (.ref p)) (.own xo) from ⟨p, u, rfl, hp, bp, h0, rep⟩) fun ds _ k q' es hk e2 e3 e4 => ?_
  cases e2
  rcases get_set e3 with ⟨_, z⟩ | ⟨hjk, e3⟩
  · cases z
  · rw [List.getElem?_set_ne hjk] at e4
    exact S.apart j k p xo es hjk e e3 a1 e4
/-- y = xs.pop(k), xs owned -/
theorem wp_popAt {i j : Nat} {n : Int} {k : Nat} (e : δ[i]? = some (.own (.l ds))) (hij : i ≠ j) (hn : ED K te δ (.int n)) (hk : n = (k : Nat)) (hkl : k < 2 ^ 62) (hd : ds[k]? = some d) (q : E.nx ((δ.set i (.own (.l (ds.eraseIdx k)))).set j (.val d))) :
    WP K (tAsg (tBM K "list" rPopAt (tVar i) (tCons te tNil)) (gName j)) E δ := fun B0 H0 B H σ D L S => by
  obtain ⟨p, vs, a1, hp, bp, h0, dp⟩ := S.slotOwn e
  refine ⟨_, a1, .inl ⟨rfl, vs, .inl (.inl hp)⟩, hn B0 H0 B H σ _ S fun v B1 H1 s1 a => ?_⟩
  cases Dq.int_inv a
  have S1 := S.step s1
  obtain ⟨p', vs', a1', hp', bp', h0', dp'⟩ := S1.slotOwn e
  rw [a1] at a1'; cases a1'
  obtain ⟨y, hy, dy⟩ := dp'.get hd
  subst hk
  have hlt : k < vs'.length := (List.getElem?_eq_some_iff.mp hy).1
  refine ⟨p, vs', (k : Nat), k, y, rfl, rfl, hp', by omega, by omega, PySem.seqIndex_of (by omega) (by omega), hy, L.nx _ _ B1 _ ?_ q⟩
  have S2 := own_upd (yo := .l (ds.eraseIdx k)) (u := .lst (vs'.eraseIdx k)) S1 e a1 bp' h0' ⟨_, rfl, ?_⟩
  · exact S2.setVal dy
  · exact dqall_erase k dp'
end
end DX
namespace DX
open PySem L2
/-- a promise with a ghost -/
def spG {G : Type} (K : PySem.W.Frag) (Pre : G → List D → Prop) (Post : G → D → Prop) : Sp := fun vs H Q _ => ∃ B ds g, Pre g ds ∧ Same B H ∧ DqAll K B vs ds ∧ ∀ v B' H' d, Stp B H B' H' → Dq K B' v d → Post g d → Q v H'
theorem ep_callG {G : Type} {K : PySem.W.Frag} {δ : List SV} {ds : List D} {ta : TA} {Pre : G → List D → Prop} {Post : G → D → Prop} {X : XK} (g : G) (h : EA K ta δ ds) (r : Pre g ds) : EP K (tCall (spG K Pre Post) [] X ta) δ (Post g) := fun B0 H0 B H σ Q S q =>
  h B0 H0 B H σ _ S fun vs B1 H1 s1 a => ⟨B1, ds, g, r, s1.bh, by rw [List.append_nil]; exact a, fun v B' H' d s2 b p => q v B' H' d (s1.trans s2) b p⟩
theorem ok_wpG {G : Type} {P : Program} {w : World} {K : PySem.W.Frag} {mg : Str → Option Value} {base : Heap} {x qual : Str} {st : Stmt} {f : Addr} {fd : FuncData} {N ps : List Str} {k : Nat} {Pre : G → List D → Prop} {Post : G → D → Prop} (F : Fun K x qual st f fd) (S : FnScope N ps (defScope st)) (len : ∀ g ds, Pre g ds → ds.length = ps.length)
    (hb : ∀ (cdv : Value) (A : Around) (outer : List Env) (s : Shared) (H : Hp) (E : XK), Room k (A.deeper (PyProof.Rows.envOfC qual (defScope st) s.heap.objs.size f cdv)) →
      ∃ t, PSs (cxOf CX0 P w K mg base N qual (defScope st) f cdv A outer s H E).nox (defBody st) t ∧ ∀ g ds, Pre g ds → WP K t { nx := fun _ => Post g .none, rt := fun d' => Post g d' } (startD N ds)) : FnOk P w K mg base CX0 (k + 1) f fd ps (spG K Pre Post) := by
  refine F.ok S (fun vs H Q E h => ?_) (fun cdv A outer s H vs Q E hr h => ?_)
  · obtain ⟨B, ds, g, r, bh, a, _⟩ := h
    rw [a.len]; exact len g ds r
  · obtain ⟨t, ht, q⟩ := hb cdv A outer s H E hr
    refine ⟨t, ht, ?_⟩
    obtain ⟨B, ds, g, r, bh, a, hq⟩ := h
    refine q g ds r B H B H _ _ ⟨fun σ' H' B' δ' S' e => ?_, fun v B' H' d' hh dv e => ?_, fun _ _ _ _ _ z => z.elim, fun _ _ _ _ _ z => z.elim⟩ (start_sd bh a)
    · exact hq _ B' H' _ ⟨S'.hist.bb, S'.hist.bh, S'.hist.hh, S'.hist.fr⟩ .non e
    · exact hq v B' H' _ ⟨hh.bb, hh.bh, hh.hh, hh.fr⟩ dv e
/-- for i, x in enumerate(..) -/
theorem wp_forE {α : Type} {xs : List α} {g : α → D} {K : PySem.W.Frag} {δ : List SV} {t : TS} {E : EndsD} {wi : TI} {i j : Nat} (I : Nat → List SV → Prop) (hw : EI K wi δ (enumD (xs.map g))) (h0 : I 0 δ)
    (hs : ∀ k x δ', xs[k]? = some x → I k δ' → WP K t { E with nx := I (k + 1), ct := I (k + 1), bk := E.nx } ((δ'.set i (.val (.int (k : Nat)))).set j (.val (g x)))) (hd : ∀ δ', I xs.length δ' → E.nx δ') : WP K (tFor wi (gTup K 2 (gCons (gName i) (gCons (gName j) gNil))) t) E δ := by
  have hl : (enumD (xs.map g)).length = xs.length := by unfold enumD; rw [List.length_map, List.length_range, List.length_map]
  refine wp_for I hw h0 (fun k d δ' e ik => ?_) (by rw [hl]; exact hd)
  have hk : k < xs.length := by
    have := (List.getElem?_eq_some_iff.mp e).1
    rwa [hl] at this
  unfold enumD at e
  rw [List.getElem?_map, List.getElem?_range (by rw [List.length_map]; exact hk)] at e
  have e2 : d = .tuple [.int (k : Nat), g xs[k]] := by
    have := Option.some.inj e
    rw [← this]
    show PyData.tuple [.int (k : Nat), (xs.map g).getD k .none] = _
    rw [List.getD_eq_getElem?_getD, List.getElem?_map, List.getElem?_eq_getElem hk]
    rfl
  subst e2
  exact ⟨_, gd_tup (gds_cons gd_name (gds_cons gd_name gds_nil)) rfl, hs k xs[k] δ' (List.getElem?_eq_getElem hk) ik⟩
theorem zipD_ints (a b : List Int) : zipD (a.map PyData.int) (b.map PyData.int) = (a.zip b).map fun x => .tuple [.int x.1, .int x.2] := by
  unfold zipD
  rw [List.zip_map, List.map_map]
  rfl
def listI (x : List Int) : D := .list (x.map PyData.int)
end DX

namespace DX
open PySem L2
/-- locked, or locked already -/
def tLk (t : TS) : TS := fun D σ H => tLock t D σ H ∨ t D σ H
theorem ps_lk {X : Cx} {st : Stmt} {t : TS} (h : PS X st t) : PS X st (tLk t) := ⟨fun pins s σ H D I w => w.elim (fun w => (ps_lock h).run pins s σ H D I w) fun w => h.run pins s σ H D I w⟩
section
variable {K : PySem.W.Frag} {B : Hp} {d : Addr} {od : Obj} {ks : List (Key × V)}
theorem rd_frz (hd : B d = some (.dK ks)) {a : Addr} {w : HO} (h : Rd B a w) : Rd (upd B d (.frz od (.dK ks))) a w := by
  by_cases e : a = d
  · subst e
    rcases h with h | ⟨o, h⟩
    · rw [hd] at h
      cases h
      exact .inr ⟨od, upd_same⟩
    · rw [hd] at h; cases h
  · rcases h with h | ⟨o, h⟩
    · exact .inl (by rw [upd_ne e]; exact h)
    · exact .inr ⟨o, by rw [upd_ne e]; exact h⟩
theorem rd_thaw (hd : B d = some (.frz od (.dK ks))) {a : Addr} {w : HO} (hw : ∀ o x, w ≠ .frz o x) (h : Rd B a w) : Rd (upd B d (.dK ks)) a w := by
  by_cases e : a = d
  · subst e
    rcases h with h | ⟨o, h⟩
    · rw [hd] at h
      cases h
      exact absurd rfl (hw _ _)
    · rw [hd] at h
      cases h
      exact .inl upd_same
  · rcases h with h | ⟨o, h⟩
    · exact .inl (by rw [upd_ne e]; exact h)
    · exact .inr ⟨o, by rw [upd_ne e]; exact h⟩
theorem sqL_rd {B B' : Hp} {a : Addr} {xs : List V} (f : Rd B a (.lst xs) → Rd B' a (.lst xs)) (h : SqL K B a xs) : SqL K B' a xs := h.elim (fun h => .inl (f h)) .inr
theorem sqT_rd {B B' : Hp} {a : Addr} {xs : List V} (f : Rd B a (.tup xs) → Rd B' a (.tup xs)) (h : SqT K B a xs) : SqT K B' a xs := h.elim (fun h => .inl (f h)) .inr
/-- data under a change of what may be read -/
structure RdTo (B B' : Hp) : Prop where
  l : ∀ {a : Addr} {xs : List V}, Rd B a (.lst xs) → Rd B' a (.lst xs)
  t : ∀ {a : Addr} {xs : List V}, Rd B a (.tup xs) → Rd B' a (.tup xs)
  k : ∀ {a : Addr} {xs : List (Key × V)}, Rd B a (.dK xs) → Rd B' a (.dK xs)
end
end DX
namespace L2
open PySem DX
section
variable {K : PySem.W.Frag}
mutual
theorem Dq.rd {B B' : Hp} (e : RdTo B B') : ∀ (d : D) (v : V), Dq K B v d → Dq K B' v d
  | .none, _, h => by cases h; exact .non
  | .bool b, _, h => by cases h; exact .bl b
  | .int i, _, h => by cases h; exact .int i
  | .str x, _, h => by cases h; exact .str x
  | .list ds, _, h => by
    cases h with
    | lst hs ha => exact .lst (sqL_rd e.l hs) (DqAll.rd e ds _ ha)
  | .tuple ds, _, h => by
    cases h with
    | tup hs ha => exact .tup (sqT_rd e.t hs) (DqAll.rd e ds _ ha)
  | .dict ds, _, h => by
    cases h with
    | dct hs ha => exact .dct (e.k hs) (DqKv.rd e ds _ ha)
theorem DqAll.rd {B B' : Hp} (e : RdTo B B') : ∀ (ds : List D) (vs : List V), DqAll K B vs ds → DqAll K B' vs ds
  | [], _, h => by cases h; exact .nil
  | d :: ds, _, h => by
    cases h with
    | cons h1 h2 => exact .cons (Dq.rd e d _ h1) (DqAll.rd e ds _ h2)
theorem DqKv.rd {B B' : Hp} (e : RdTo B B') : ∀ (ds : List (D × D)) (vs : List (Key × V)), DqKv K B vs ds → DqKv K B' vs ds
  | [], _, h => by cases h; exact .nil
  | (f, d) :: ds, _, h => by
    cases h with
    | cons h1 h2 h3 => exact .cons (Dq.rd e f _ h1) (Dq.rd e d _ h2) (DqKv.rd e ds _ h3)
end
end
end L2
namespace DX
open PySem L2
section
variable {K : PySem.W.Frag} {B : Hp} {d : Addr} {od : Obj} {ks : List (Key × V)}
theorem OwnRep.rd {B B' : Hp} {o : HO} (e : RdTo B B') : ∀ {x : OD}, OwnRep K B o x → OwnRep K B' o x
  | .l ds, ⟨vs, a, b⟩ => ⟨vs, a, L2.DqAll.rd e ds _ b⟩
  | .m es, ⟨vs, a, b⟩ => ⟨vs, a, L2.DqKv.rd e es _ b⟩
theorem rdTo_frz (hd : B d = some (.dK ks)) : RdTo B (upd B d (.frz od (.dK ks))) := ⟨rd_frz hd, rd_frz hd, rd_frz hd⟩
theorem rdTo_thaw (hd : B d = some (.frz od (.dK ks))) : RdTo B (upd B d (.dK ks)) := ⟨rd_thaw hd (fun _ _ z => nomatch z), rd_thaw hd (fun _ _ z => nomatch z), rd_thaw hd (fun _ _ z => nomatch z)⟩
end
/-- the past, locked -/
def lockH (H0 : Hp) (d : Addr) (o : HO) : Hp := fun a => if a = d then (match H0 d with
  | none => none
  | some _ => some o) else H0 a
theorem lockH_ne {H0 : Hp} {d a : Addr} {o : HO} (h : a ≠ d) : lockH H0 d o a = H0 a := by unfold lockH; rw [if_neg h]
theorem lockH_none {H0 : Hp} {d a : Addr} {o : HO} (h : H0 a = none) : lockH H0 d o a = none := by
  unfold lockH
  by_cases e : a = d
  · subst e; rw [if_pos rfl, h]
  · rw [if_neg e]; exact h
theorem lockH_some {H0 : Hp} {d : Addr} {o x : HO} (h : lockH H0 d o d = some x) : x = o := by
  unfold lockH at h
  rw [if_pos rfl] at h
  cases e : H0 d with
  | none => rw [e] at h; cases h
  | some y => rw [e] at h; cases h; rfl
section
variable {K : PySem.W.Frag} {B0 H0 B H B' H' : Hp} {σ σ' : L2.St} {δ δ' : List SV} {d : Addr} {od : Obj} {ks : List (Key × V)}
theorem Sd.lock (S : Sd K B0 H0 B H σ δ) (hd : B d = some (.dK ks)) : Sd K (upd B d (.frz od (.dK ks))) (lockH H0 d (.frz od (.dK ks))) (upd B d (.frz od (.dK ks))) (upd H d (.frz od (.dK ks))) σ δ := by
  refine ⟨⟨Same.refl _, fun a o e => ?_, fun a o e => ?_, fun a q z => z⟩, S.len, fun i s ei => ?_, S.apart⟩
  · by_cases x : a = d
    · subst x; rw [upd_same] at e ⊢; exact e
    · rw [upd_ne x] at e ⊢; exact S.hist.bh _ _ e
  · by_cases x : a = d
    · subst x; rw [upd_same, lockH_some e]
    · rw [lockH_ne x] at e; rw [upd_ne x]; exact S.hist.hh _ _ e
  · obtain ⟨o, eo, ok⟩ := S.ok i s ei
    refine ⟨o, eo, ?_⟩
    cases s with
    | no => exact True.intro
    | val x => obtain ⟨v, e1, e2⟩ := ok; exact ⟨v, e1, L2.Dq.rd (rdTo_frz hd) _ _ e2⟩
    | own x =>
      obtain ⟨p, u, e1, e2, e3, e4, e5⟩ := ok
      have hp : p ≠ d := fun z => by subst z; rw [hd] at e3; cases e3
      exact ⟨p, u, e1, by rw [upd_ne hp]; exact e2, by rw [upd_ne hp]; exact e3, lockH_none e4, e5.rd (rdTo_frz hd)⟩
theorem Hist.unlock (h : Hist B0 H0 B H) (hd : B d = some (.dK ks)) (S : Hist (upd B d (.frz od (.dK ks))) (lockH H0 d (.frz od (.dK ks))) B' H') : B' d = some (.frz od (.dK ks)) ∧ H' d = some (.frz od (.dK ks)) ∧ Hist B0 H0 (upd B' d (.dK ks)) (upd H' d (.dK ks)) := by
  have b1 : B' d = some (.frz od (.dK ks)) := S.bb _ _ upd_same
  refine ⟨b1, S.bh _ _ b1, fun a o e => ?_, fun a o e => ?_, fun a o e => ?_, fun a q z => ?_⟩
  · have e2 := h.bb _ _ e
    by_cases x : a = d
    · subst x; rw [hd] at e2; rw [upd_same]; exact e2
    · rw [upd_ne x]; exact S.bb _ _ (by rw [upd_ne x]; exact e2)
  · by_cases x : a = d
    · subst x; rw [upd_same] at e ⊢; exact e
    · rw [upd_ne x] at e ⊢; exact S.bh _ _ e
  · by_cases x : a = d
    · subst x
      have e2 := h.hh _ _ e
      rw [h.bh _ _ hd] at e2
      rw [upd_same]; exact e2
    · rw [upd_ne x]; exact S.hh _ _ (by rw [lockH_ne x]; exact e)
  · have e2 := h.fr a q z
    have x : a ≠ d := fun x => by subst x; rw [hd] at e2; cases e2
    rw [upd_ne x]
    exact S.fr a (by rw [lockH_ne x]; exact q) (by rw [upd_ne x]; exact e2)
theorem Sd.unlock (h : Hist B0 H0 B H) (hd : B d = some (.dK ks)) (S : Sd K (upd B d (.frz od (.dK ks))) (lockH H0 d (.frz od (.dK ks))) B' H' σ' δ') : H' d = some (.frz od (.dK ks)) ∧ Sd K B0 H0 (upd B' d (.dK ks)) (upd H' d (.dK ks)) σ' δ' := by
  obtain ⟨b1, h1, hi⟩ := h.unlock hd S.hist
  refine ⟨h1, hi, S.len, fun i s ei => ?_, S.apart⟩
  obtain ⟨o, eo, ok⟩ := S.ok i s ei
  refine ⟨o, eo, ?_⟩
  cases s with
  | no => exact True.intro
  | val x => obtain ⟨v, e1, e2⟩ := ok; exact ⟨v, e1, L2.Dq.rd (rdTo_thaw b1) _ _ e2⟩
  | own x =>
    obtain ⟨p, u, e1, e2, e3, e4, e5⟩ := ok
    have hp : p ≠ d := fun z => by subst z; rw [b1] at e3; cases e3
    exact ⟨p, u, e1, by rw [upd_ne hp]; exact e2, by rw [upd_ne hp]; exact e3, by rw [lockH_ne hp] at e4; exact e4, e5.rd (rdTo_thaw b1)⟩
end
section
variable {K : PySem.W.Frag} {δ : List SV} {t : TS} {E : EndsD} {α : Type} {xs : List α} {g1 g2 : α → D}
/-- for k, v in d.items() -/
theorem wp_items {m i j : Nat} (I : Nat → List SV → Prop) (hv : ∀ n δ', I n δ' → δ'[m]? = some (.val (.dict (xs.map fun x => (g1 x, g2 x))))) (h0 : I 0 δ)
    (hs : ∀ k x δ', xs[k]? = some x → I k δ' → WP K t { E with nx := I (k + 1), ct := I (k + 1), bk := E.nx } ((δ'.set i (.val (g1 x))).set j (.val (g2 x)))) (hd : ∀ δ', I xs.length δ' → E.nx δ') :
    WP K (tLk (tFor (iItems (tVar m)) (gTup K 2 (gCons (gName i) (gCons (gName j) gNil))) t)) E δ := by
  -- the walk over a locked dict
  have walk : ∀ (B0 H0 B H : Hp) (σ : L2.St) (D : Ends) (a : Addr) (o : Obj) (ks : List (Key × V)), Lift K B0 H0 E D → Sd K B0 H0 B H σ δ → σ[m]? = some (some (.ref a)) → B a = some (.frz o (.dK ks)) → DqKv K B ks (xs.map fun x => (g1 x, g2 x)) →
      tFor (iItems (tVar m)) (gTup K 2 (gCons (gName i) (gCons (gName j) gNil))) t D σ H := fun B0 H0 B H σ D a o ks L S hm hB hkv => by
    have hkl : ks.length = xs.length := by rw [hkv.len, List.length_map]
    refine ⟨_, hm, a, o, ks, rfl, S.hist.bh _ _ hB, fun k n σ' H' => n = xs.length - k ∧ k ≤ xs.length ∧ ∃ B' δ', Sd K B H0 B' H' σ' δ' ∧ I k δ', ⟨_, rfl, Nat.zero_le _, B, δ, S.past S.hist.bb (Same.refl _), h0⟩, ?_⟩
    rintro k n σ' H' ⟨rfl, hk, B', δ', S', ik⟩
    have hH' : H' a = some (.frz o (.dK ks)) := S'.hist.bh _ _ (S'.hist.bb _ _ hB)
    by_cases hlt : k < xs.length
    · refine .inr ⟨⟨hH', by omega⟩, fun σ2 H2 => ∃ B2 δ2, Sd K B H0 B2 H2 σ2 δ2 ∧ I (k + 1) δ2, fun σ2 H2 ⟨B2, δ2, S2, i2⟩ => ⟨xs.length - (k + 1), by omega, rfl, hlt, B2, δ2, S2, i2⟩, fun x H2 yl => ?_⟩
      obtain ⟨T, kk, v, ek, rfl, nT, rfl⟩ := yl
      have item : ∀ (n : Nat) (vs : List (Key × V)) (es : List α), DqKv K B vs (es.map fun x => (g1 x, g2 x)) → ∀ kk v, vs[n]? = some (kk, v) → ∃ y, es[n]? = some y ∧ Dq K B (kV kk) (g1 y) ∧ Dq K B v (g2 y) := by
        intro n
        induction n with
        | zero =>
          intro vs es h kk v e
          cases es with
          | nil => cases h; cases e
          | cons y es =>
            cases h with
            | cons h1 h2 h3 => cases e; exact ⟨y, rfl, h1, h2⟩
        | succ n ih =>
          intro vs es h kk v e
          cases es with
          | nil => cases h; cases e
          | cons y es =>
            cases h with
            | cons h1 h2 h3 => exact ih _ es h3 kk v e
      obtain ⟨y, ey, d1, d2⟩ := item k ks xs hkv kk v ek
      have bn := S'.hist.bh.free nT
      have sn := same_new (o := .tup [kV kk, v]) bn
      have st : Stp B' H' (upd B' T (.tup [kV kk, v])) (upd H' T (.tup [kV kk, v])) := .new S'.hist.bh nT
      have S2 := S'.step st
      refine ⟨T, [kV kk, v], rfl, .inl (.inl upd_same), rfl, kV kk, [v], rfl, v, [], rfl, rfl, ?_⟩
      have S3 := (S2.setVal (i := i) (Dq.up (S'.hist.bb.trans sn) _ _ d1)).setVal (i := j) (Dq.up (S'.hist.bb.trans sn) _ _ d2)
      exact hs k y δ' ey ik B H0 _ _ _ _ ⟨fun σ4 H4 B4 δ4 S4 q => ⟨B4, δ4, S4, q⟩, fun v B4 H4 d' hh dv q => L.rt v B4 H4 d' (hh.back S.hist) dv q, fun σ4 H4 B4 δ4 S4 q => L.nx σ4 H4 B4 δ4 (S4.back S.hist) q, fun σ4 H4 B4 δ4 S4 q => ⟨B4, δ4, S4, q⟩⟩ S3
    · have e : k = xs.length := by omega
      subst e
      exact .inl ⟨⟨hH', by omega⟩, L.nx σ' H' B' δ' (S'.back S.hist) (hd δ' ik)⟩
  intro B0 H0 B H σ D L S
  obtain ⟨v, hm, dv⟩ := S.slot (hv 0 δ h0)
  cases dv with
  | @dct a ks _ hr hkv =>
    rcases hr with hr | ⟨o, hr⟩
    · refine .inl ⟨a, .dK ks, S.hist.bh _ _ hr, True.intro, fun od => ?_⟩
      refine walk _ _ _ _ σ _ a od ks ⟨fun σ' H' B' δ' S' q => ?_, fun v B' H' d' hh dv q => ?_, fun σ' H' B' δ' S' q => ?_, fun σ' H' B' δ' S' q => ?_⟩ (S.lock hr) hm upd_same (L2.DqKv.rd (rdTo_frz hr) _ _ hkv)
      · obtain ⟨z1, z2⟩ := Sd.unlock S.hist hr S'
        exact ⟨z1, L.nx _ _ _ _ z2 q⟩
      · obtain ⟨z0, z1, z2⟩ := S.hist.unlock hr hh
        exact ⟨z1, L.rt _ _ _ _ z2 (L2.Dq.rd (rdTo_thaw z0) _ _ dv) q⟩
      · obtain ⟨z1, z2⟩ := Sd.unlock S.hist hr S'
        exact ⟨z1, L.bk _ _ _ _ z2 q⟩
      · obtain ⟨z1, z2⟩ := Sd.unlock S.hist hr S'
        exact ⟨z1, L.ct _ _ _ _ z2 q⟩
    · exact .inr (walk B0 H0 B H σ D a o ks L S hm hr hkv)
theorem wp_asgGP {te : TE} {g : TG} {P : D → Prop} (h : EP K te δ P) (q : ∀ d, P d → ∃ δ', GD K g δ d δ' ∧ E.nx δ') : WP K (tAsg te g) E δ := fun B0 H0 B H σ D L S =>
  h B0 H0 B H σ _ S fun v B1 H1 d s1 a p => by
    obtain ⟨δ', hg, q⟩ := q d p
    exact hg B0 H0 B1 H1 σ v _ (S.step s1) a fun σ' S' => L.nx σ' H1 B1 δ' S' q
end
end DX

namespace DX
open PySem PySem.Spec PyProof.Rows L2
/-- a set without items, when it was just made -/
abbrev eS (w : World) : Obj := { cls := .type "set", dict := none, data := .set #[] 0 (.fresh 0 0 (!w.params.followText "set-order")) }
section
variable {P : Program} {w : World} {A : Around} {E : Value → Shared → Prop} {s : Shared}
set_option maxRecDepth 100000 in
set_option maxHeartbeats 3200000 in
theorem set_of_list {l : Addr} {its : Array Value} (ns : List Int) {Q : Value → Shared → Prop} (hh : A.handled = none)
    (hl : s.heap.IsList l its) (hi : IntsAre its.toList ns) (hb : ns.length + 1 < scanBound)
    (K : ∀ (h' : Heap) (tk c : Nat), SetR w h' s.heap.objs.size (fun j => decide (j ∈ ns)) c → c ≤ ns.length →
      (∀ b o, s.heap.get? b = some o → h'.get? b = some o) → Q (.ref s.heap.objs.size) { s with heap := h', toks := tk }) :
    wpAny (model P w) A (call (.type "set") [.ref l]) Q E s := by
  have size_eq : its.size = ns.length := by
    have q := IntsAre.length hi
    rwa [Array.length_toList] at q
  obtain ⟨c0, tl, m0⟩ := F.called_set.mro
  have m1 := F.called_set.made
  have m2 := F.called_set.sub
  have m3 := F.called_set.notType
  have m4 := F.called_set.canCreate
  have m5 := F.typeCall_set_1 (.ref l)
  refine wpAny_call (codeAny_of_tree (show wpAny _ _ (callAny (.type "set") _) _ _ _ from ?_))
  refine wpAny_pure ⟨Code.quiet_builtin _ (by decide +kernel), codeAny_builtin PySem.F.entry_type_call ?_⟩
  rw [Around.under_plain (weight_type_call_type "set" [.ref l] []) rfl]
  repeat (any_goals (first | assumption | wp_step))
  refine codeAny_mono (code_set_led1 (.ref l) (E := E)
    (Q₁ := fun v s₁ => v = .ref s.heap.objs.size ∧ s₁ = { s with heap := s.heap.push (eS w) }) ⟨rfl, rfl⟩) fun r s₁ hr => ?_
  cases r with
  | error e => exact hr
  | ok fl =>
    cases fl with
    | ret obj =>
      obtain ⟨rfl, rfl⟩ := hr
      have at0 : (s.heap.push (eS w)).get? s.heap.objs.size = some (eS w) := Heap.get?_push_size _ rfl
      have ty0 : Shared.TypeIs { s with heap := s.heap.push (eS w) } (.ref s.heap.objs.size) "set" := ⟨_, at0, rfl⟩
      have n1 := F.called_set.init.lookup
      have n2 := F.called_set.init.bind (.ref s.heap.objs.size)
      repeat (any_goals (first | assumption | wp_step))
      refine codeAny_mono (codeAny_call_builtin
        (R := wants (fun r s₂ => r = .none ∧ ∃ h' tk c, s₂ = { s with heap := h', toks := tk } ∧
          SetR w h' s.heap.objs.size (fun j => decide (j ∈ ns)) c ∧ c ≤ ns.length ∧
          ∀ b o, s.heap.get? b = some o → h'.get? b = some o) E)
        F.called_set.init.plain F.entry_set_init (check_set_init_1 ty0 ?_)) fun r₂ s₂ hr₂ => ?_
      · obtain ⟨⟨xc, xd, xt, xs⟩, hol, hcl, nl, hdl⟩ := hl
        simp only at hcl hdl
        subst hcl; subst hdl
        have ol : (s.heap.push (eS w)).get? l = some { cls := .type "list", dict := xd, data := .seq its nl, slots := xs } := Heap.get?_push_of_some _ hol
        have p1 := F.sub_list_set
        have p2 := F.sub_list_frozenset
        have p3 : (Value.type "list" == Value.type "dict") = false := by decide
        have il : (s.heap.push (eS w)).IsList l its := ⟨_, ol, rfl, nl, rfl⟩
        unfold Builtin.«set.__init__» noKeywords Builtin.Frozenset.updateFrom
        generalize hPI : pyIter = PI
        wp_walk
        subst hPI
        refine wpAny_pyIter_list il (wpAny_bind (wpAny_runValue ?_))
        have lt0 : l < s.heap.objs.size := Heap.lt_size hol
        have h3 : A.in1.in1.in1.handled = none := by simp [hh]
        have ne1 : l ≠ (s.heap.push (eS w)).objs.size := by rw [Heap.size_push]; exact Nat.ne_of_lt (Nat.lt_succ_of_lt lt0)
        have ne2 : s.heap.objs.size ∉ [(s.heap.push (eS w)).objs.size, l] := by
          rw [Heap.size_push]
          simp only [List.mem_cons, List.not_mem_nil, or_false, not_or]
          exact ⟨Nat.ne_of_lt (Nat.lt_succ_self _), Nat.ne_of_gt lt0⟩
        have val : ∀ (i : Nat) (v : Value), its[i]? = some v → ∃ k t, ns[i]? = some k ∧ v = .int k t := fun i v hv => by
          have hlt : i < ns.length := by rw [← size_eq]; exact (Array.getElem?_eq_some_iff.mp hv).1
          obtain ⟨t, e⟩ := PyProof.Rows.IntsAre.int_at hi i v (by rw [Array.getElem?_toList]; exact hv)
          refine ⟨ns[i], t, List.getElem?_eq_getElem hlt, ?_⟩
          rw [e, List.getD_eq_getElem?_getD, List.getElem?_eq_getElem hlt] <;> rfl
        refine set_update_ints ((Walks.list h3 _ l ne1 its).toS) s.heap.objs.size ne2 ns size_eq hb val (its.size - 0) 0 _ (by omega) (Nat.zero_le _)
          ⟨⟨_, Heap.get?_push_size _ rfl, rfl, rfl⟩, (il.push _)⟩ ⟨0, Nat.le_refl 0, setR_new_at (Heap.get?_push_of_some _ at0)⟩ ?_
        rintro ⟨h2, g2, d2, tk2, os2⟩ c2 hm hc2 hS2
        have eg : g2 = s.gens := hm.gens
        have ed : d2 = s.drawn := hm.drawn
        have eo : os2 = s.os := hm.os
        subst eg; subst ed; subst eo
        show wpAny _ _ _ _ _ _
        refine wpAny_pure ?_
        show wpAny _ _ (ret Value.none) _ _ _
        rw [size_eq] at hc2
        refine wpAny_pure ⟨rfl, h2, tk2, c2, rfl, hS2, hc2, fun b o e => ?_⟩
        have b0 : b < s.heap.objs.size := Heap.lt_size e
        refine hm.heap b o ?_ (Heap.get?_push_of_some _ (Heap.get?_push_of_some _ e))
        rw [Heap.size_push]
        simp only [List.mem_cons, List.not_mem_nil, or_false, not_or]
        exact ⟨Nat.ne_of_lt b0, Nat.ne_of_lt (Nat.lt_succ_of_lt b0)⟩
      · cases r₂ with
        | error e => exact hr₂
        | ok fl₂ =>
          cases fl₂ with
          | ret r =>
            obtain ⟨rfl, h2, tk2, c2, rfl, hS2, hc2, k2⟩ := hr₂
            repeat (any_goals (first | assumption | wp_step))
            exact K _ _ _ hS2 hc2 k2
          | _ => exact hr₂.elim
    | _ => exact hr.elim
end
/-- set(xs) of a list of ints -/
def rSetL (K : PySem.W.Frag) (w : World) : List V → Hp → VK → Prop := fun xs H Q => ∃ (p : Addr) (ns : List Int), xs = [.ref p] ∧ SqL K H p (ns.map V.int) ∧ ns.length ≤ 1000 ∧ ∀ a c, H a = none → c ≤ ns.length → Q (.ref a) (upd H a (SetO w a (fun j => decide (j ∈ ns)) c))
theorem cr_setL {X : Cx} {K : PySem.W.Frag} (hc : X.calm = true) (hK : X.K = K := by rfl) : CallR X (.type "set") (rSetL K X.w) := by
  subst hK
  intro pins s σ H xs us Q I r h
  obtain ⟨p, ns, rfl, hq, hl, q⟩ := h
  cases r with
  | cons r rr =>
    cases rr
    cases r
    obtain ⟨its, rv, pt, hz⟩ := I.list hq
    have hi : IntsAre its.toArray.toList ns := ints_of_vals rv
    refine set_of_list ns (I.ok.hd hc) (show s.heap.IsList p its.toArray from pt.isList) hi (by unfold scanBound; omega) fun h' tk c R1 hcn k => ?_
    exact ⟨.ref _, upd H s.heap.objs.size _, I.laid (t' := tk) k (Nat.le_refl _) (setO_new R1), rfl, q _ _ (I.hok.fresh (Nat.le_refl _)) hcn⟩
end DX

namespace DX
open PySem PySem.Spec PyProof.Rows L2
open AutoSeq1 (wpAny_loadPart')
/-! ### enumerate over a tuple -/
abbrev tupIt (l : Addr) : Obj := { cls := .type "tuple_iterator", data := .fields #[.ref l, .int 0 0] }
abbrev enumOb (i : Addr) : Obj := { cls := .type "enumerate", data := .fields #[.none, .bool false, .ref i, rawInt 0, .none, .none] }
theorem enum_new_tup (l : Addr) (its : Array Value) : Meets (Builtin.«enumerate.__new__» ⟨[.type "enumerate", .ref l], []⟩)
    (fun _ R s => s.heap.IsTuple l its ∧ R (.ok (.ret (.ref (s.heap.push (tupIt l)).objs.size))) { s with heap := (s.heap.push (tupIt l)).push (enumOb s.heap.objs.size) }) :=
  .of_wp fun prog w A R s z => by
    obtain ⟨hp, g, d, tk, os⟩ := s
    obtain ⟨tl, z⟩ := z
    obtain ⟨⟨c, dd, dt, sl⟩, ho, hc, n, hd⟩ := id tl
    simp only at hc hd
    subst hc; subst hd
    have hsub := sub_enumerate
    wp_walk using wpAny_loadPart' ho
    refine wpAny_stack_any fun st => wpAny_pure ?_
    split
    · rename_i c _ _ _ _ _
      cases (c == Value.type "enumerate") <;> (wp_walk using wpAny_loadPart' ho, wpAny_pyIter_tuple tl; exact ⟨_, rfl, z⟩)
    · wp_walk using wpAny_loadPart' ho, wpAny_pyIter_tuple tl
      exact ⟨_, rfl, z⟩
section
variable {prog : Program} {w : World} {A : Around} {E : Value → Shared → Prop} {s : Shared}
theorem enum_of_tup {l : Addr} {its : Array Value} {Q : Value → Shared → Prop} (tl : s.heap.IsTuple l its)
    (k : ∀ h', IsEnum h' (s.heap.objs.size + 1) s.heap.objs.size 0 .none → h'.IsTupleIter s.heap.objs.size l 0 →
      (∀ b o, s.heap.get? b = some o → h'.get? b = some o) → Q (.ref (s.heap.objs.size + 1)) { s with heap := h' }) :
    wpAny (model prog w) A (call (.type "enumerate") [.ref l]) Q E s := by
  refine callType_new F.called_enumerate (by decide) (F.typeCall_enumerate_1 _) (F.newCall_enumerate_1 _) (fun obj => F.args_object_init_2 obj _) F.entry_enumerate_new (enum_new_tup l its) ⟨tl, ?_⟩
  have z1 : (s.heap.push (tupIt l)).objs.size = s.heap.objs.size + 1 := Heap.size_push ..
  have z2 := Heap.get?_push_size (s.heap.push (tupIt l)) (o := enumOb s.heap.objs.size) rfl
  rw [z1] at z2
  show _ ∧ _
  rw [z1]
  exact ⟨⟨_, z2, rfl⟩, k _ z2 ⟨_, Heap.get?_push_of_some _ (Heap.get?_push_size _ rfl), rfl, rfl⟩ fun b o x => Heap.get?_push_of_some _ (Heap.get?_push_of_some _ x)⟩
end
/-- a tuple's items with their places, each in a new pair -/
def IteT (K : PySem.W.Frag) (a : Addr) : It :=
  ⟨fun i H => ∃ (xs : List V) (x : V), SqT K H a xs ∧ xs[i]? = some x,
   fun i H v H' => ∃ T x, v = .ref T ∧ H T = none ∧ H' = upd H T (.tup [.int (i : Nat), x]) ∧ ∀ xs, SqT K H a xs → xs[i]? = some x,
   fun i H => ∃ xs : List V, SqT K H a xs ∧ xs.length ≤ i⟩
theorem turn_enumT {P : Program} {w : World} {K : PySem.W.Frag} {elts : List Expr} {kk : Nat} {tpos : Pos} (a e it : Addr) :
    Turn P w K (.Tuple elts kk tpos) (IteT K a) [e, it] e (fun i h => (∃ old, IsEnum h e it ((i : Nat) : Int) old) ∧ h.IsTupleIter it a i ∧ e ≠ it) where
  mem := by simp
  obj := fun i h ⟨⟨old, he⟩, ⟨o, ho, hc, hd⟩, _⟩ b hb => by
    rcases List.mem_cons.mp hb with z | z
    · rw [z]; exact ⟨_, he, fun v q => nomatch q⟩
    · rw [List.mem_singleton.mp z]; exact ⟨o, ho, fun v q => by rw [hd] at q; cases q⟩
  keep := fun i h h' ⟨⟨old, he⟩, ⟨o, ho, r⟩, hne⟩ k => ⟨⟨old, k e (by simp) _ he⟩, ⟨o, k it (by simp) _ ho, r⟩, hne⟩
  item := by
    rintro X hP hw hK hc i pins s σ H E I hf ⟨⟨old, he⟩, hit, hne⟩ ⟨xs, x, hq, hx⟩
    subst hP hw hK
    obtain ⟨its, rv, p, hz⟩ := I.tuple hq
    obtain ⟨u, hu, ru⟩ := rv.get hx
    have le : e < s.heap.objs.size := Heap.lt_size he
    have li : it < s.heap.objs.size := by obtain ⟨_, q, _⟩ := hit; exact Heap.lt_size q
    by_cases hai : a = it
    · exfalso
      subst hai
      obtain ⟨o, q1, q2, _⟩ := hit
      obtain ⟨o', q1', q2', _⟩ := p
      rw [q1] at q1'; cases q1'
      rw [q2] at q2'; injection q2' with q3; exact absurd q3 (by decide)
    by_cases hea : e = a
    · exfalso
      subst hea
      obtain ⟨o', q1', q2', _⟩ := p
      rw [he] at q1'; cases q1'
      injection q2' with q3; exact absurd q3 (by decide)
    have hlt : i < its.toArray.size := by
      have := (List.getElem?_eq_some_iff.mp hu).1
      simpa using this
    refine wpAny_pyNext_enum_itemD (Draws.tuple (A := X.A.in1) (show X.A.in1.handled = none from I.ok.hd hc) it a hai its.toArray) he ⟨hit, p⟩ hlt hne (by
      simp only [List.mem_cons, List.not_mem_nil, or_false, not_or]
      exact ⟨hne, hea⟩) fun v h1 tk hv ho st1 hT hsz hk => ?_
    have ev : v = u := by
      have hv : its.toArray[i]? = some v := hv
      have hu2 : its.toArray[i]? = some u := by simpa using hu
      rw [hu2] at hv; exact (Option.some.inj hv).symm
    subst ev
    refine ⟨_, rfl, wpAny_letOwnedTupleGo_enum (s := { s with heap := h1, toks := tk + 1 }) ho fun h2 he2 sb => ?_⟩
    have T2 : h2.get? s.heap.objs.size = some { cls := .type "tuple", data := .seq #[.int i tk, v] } := (sb.2 _ (Nat.ne_of_gt le)).trans hT
    have new : ObjOk X.prog X.w (upd H s.heap.objs.size (.tup [.int (i : Nat), x])) h2 s.heap.objs.size (.tup [.int (i : Nat), x]) :=
      ⟨by show 2 ≤ sizeLine; decide, [.int i tk, v], .cons ⟨_, rfl⟩ (.cons ru .nil), ⟨_, T2, rfl, _, rfl⟩⟩
    have I1 : Inv X pins σ (upd H s.heap.objs.size (.tup [.int (i : Nat), x])) { s with heap := h2, toks := tk + 1 } :=
      I.turnedNew (ch := [e, it]) (fun b ob hb q => by
        simp only [List.mem_cons, List.not_mem_nil, or_false, not_or] at hb
        exact (sb.2 b hb.1).trans (hk b ob hb.1 hb.2 q)) hf (Nat.le_refl _) new
    obtain ⟨o5, q5, r5⟩ := st1.1
    refine ⟨.ref s.heap.objs.size, _, I1, rfl, ⟨_, x, rfl, I.hok.fresh (Nat.le_refl _), rfl, fun ys hy => by rw [I.tuple_inj hy hq]; exact hx⟩, ⟨⟨v, ?_⟩, ⟨o5, (sb.2 it (Ne.symm hne)).trans q5, r5⟩, hne⟩, fun b hb => ?_⟩
    · rw [Int.natCast_succ]; exact he2
    · have hb' : b < s.heap.objs.size := by
        rcases List.mem_cons.mp hb with z | z
        · rw [z]; exact le
        · rw [List.mem_singleton.mp z]; exact li
      rw [upd_ne (Nat.ne_of_lt hb')]
      exact (hf b hb).1
  done := by
    rintro X hP hw hK hc i pins s σ H E I hf ⟨⟨old, he⟩, hit, hne⟩ ⟨xs, hq, hx⟩
    subst hP hw hK
    obtain ⟨its, rv, p, hz⟩ := I.tuple hq
    obtain ⟨f0, f1, f2, f3, f4, f5⟩ := hf it (by simp)
    by_cases hai : a = it
    · exfalso
      subst hai
      obtain ⟨o, q1, q2, _⟩ := hit
      obtain ⟨o', q1', q2', _⟩ := p
      rw [q1] at q1'; cases q1'
      rw [q2] at q2'; injection q2' with q3; exact absurd q3 (by decide)
    have hT : s.TypeIs (.ref e) "enumerate" := ⟨_, he, rfl⟩
    unfold pyNext
    refine wpAny_bind (wpAny_attempt (wpAny_callSpecial?_slot (name := Str.ofString "__next__") hT F.slot_enumerate_next
      (wpAny_call_entry F.slot_enumerate_next hT F.entry_enumerate_next ?_ (F.args_enumerate_next_1 _))))
    refine wpAny_bind (m := field (.ref e) 2) (wpAny_field he rfl (x := .ref it) rfl ?_)
    refine wpAny_bind (RZ.nextOf_tuple_end (show X.A.in1.handled = none from I.ok.hd hc) hit (show s.heap.IsTuple a its.toArray from p) (by
      have := rv.length
      simp; omega) fun h' y eb hx' => ?_)
    obtain ⟨o, ho, hc'⟩ := hx'
    refine wpAny_bind (wpAny_isInstance (T := "StopIteration") (b := true) ⟨o, ho, hc'⟩ isSubtype_stop ?_)
    exact wpAny_pure ⟨rfl, I.turned (t' := s.toks) (fun b o hb q => eb b o hb q) f0 f1 f3 f4 f5⟩
  self := fun A i s Q E ⟨⟨_, he⟩, _⟩ h => wpAny_pyIter_enum he h
def iEnumT (K : PySem.W.Frag) (ta : TA) : TI := fun σ H R => ta σ H fun vs H1 => ∃ a xs, vs = [.ref a] ∧ SqT K H1 a xs ∧ R (IteT K a) H1
theorem pi_enumT {X : Cx} {K : PySem.W.Frag} {e : Expr} {ta : TA} {p pos tpos : Pos} {elts : List Expr} {kk : Nat} (hg : Gl X "enumerate") (hm : X.mg "enumerate" = none) (ha : PA X [e] ta) (hK : X.K = K := by rfl)
    (hs : starEach [e] X.env = [(false, eval e X.env)] := by rfl) : PI X (.Tuple elts kk tpos) (.Call (.Name "enumerate" p) [e] [] pos) (iEnumT K ta) := by
  subst hK
  constructor
  intro pins s σ H R I h
  refine Call_ (ld_blt I hg hm boot_enumerate (PyProof.Rows.callWith_type1 (thn (ha.run pos pins s σ H _ I h) ?_) hs rfl))
  rintro us s1 ⟨vs, H1, I1, r1, a, xs, rfl, hq, q⟩
  cases r1 with
  | cons r rr =>
    cases rr
    cases r
    obtain ⟨its, rv, pt, hz⟩ := I1.tuple hq
    refine enum_of_tup (show s1.heap.IsTuple a its.toArray from pt) fun h' he hit hk => wpAny_pyIter_enum he ?_
    refine ⟨s1.heap.objs.size + 1, [s1.heap.objs.size + 1, s1.heap.objs.size], _, _, H1, rfl, I1.kept (t' := s1.toks) hk, turn_enumT a (s1.heap.objs.size + 1) s1.heap.objs.size, ⟨⟨.none, he⟩, hit, Nat.succ_ne_self _⟩, fun b hb => ?_, q⟩
    have le : s1.heap.objs.size ≤ b := by
      rcases List.mem_cons.mp hb with z | z
      · rw [z]; exact Nat.le_add_right _ _
      · rw [List.mem_singleton.mp z]; exact Nat.le_refl _
    exact I1.fpOk le (I1.hok.fresh le)
/-- over a list or a tuple -/
def iEnumA (K : PySem.W.Frag) (ta : TA) : TI := fun σ H R => iEnum K ta σ H R ∨ iEnumT K ta σ H R
theorem kpi_enumA {X : Cx} {K : PySem.W.Frag} {e : Expr} {ta : TA} {p pos tpos : Pos} {elts : List Expr} {kk : Nat} (hg : Gl X "enumerate") (hm : X.mg "enumerate" = none) (ha : PA X [e] ta) (hK : X.K = K := by rfl)
    (hs : starEach [e] X.env = [(false, eval e X.env)] := by rfl) : PI X (.Tuple elts kk tpos) (.Call (.Name "enumerate" p) [e] [] pos) (iEnumA K ta) := by
  have h1 := pi_enumT (tpos := tpos) (elts := elts) (kk := kk) (p := p) (pos := pos) hg hm ha hK hs
  subst hK
  have h2 := pi_enum (tpos := tpos) (elts := elts) (kk := kk) (p := p) (pos := pos) hg hm ha hs
  exact ⟨fun pins s σ H R I h => h.elim (h2.run pins s σ H R I) (h1.run pins s σ H R I)⟩
theorem kpi_zipA {X : Cx} {K : PySem.W.Frag} {e e2 : Expr} {ta : TA} {p pos tpos : Pos} {elts : List Expr} {kk : Nat} (hg : Gl X "zip") (hm : X.mg "zip" = none) (ha : PA X [e, e2] ta) (hK : X.K = K := by rfl)
    (hs : starEach [e, e2] X.env = (false, eval e X.env) :: starEach [e2] X.env := by rfl) (hpl : (backTo pos (starEach [e2] X.env)).any (·.1) = false := by rfl) : PI X (.Tuple elts kk tpos) (.Call (.Name "zip" p) [e, e2] [] pos) (RZ.iZipA K ta) := by subst hK; exact RZ.pi_zipA hg hm ha hs hpl
end DX

namespace DX
open PySem L2
/-! ### rules with the written part named -/
def rSlB (K : PySem.W.Frag) : V → Option Int → Option Int → Hp → VK → Prop := fun x lo hi H Q => rSlL K x lo hi H Q ∨ L2.rSlA K x lo hi H Q
def rCatA (K : PySem.W.Frag) : R2 := fun x y H Q => rCat x y H Q ∨ rCatT K x y H Q
section
variable {X : Cx} {K : PySem.W.Frag} {w : World}
theorem kx_slB (hK : X.K = K := by rfl) : SlR X (rSlB K) := by subst hK; exact SlR.or sl_list L2.sl_tupA
theorem opr_or {f : Value → Value → Sem Value} {r r' : R2} (h : OpR X f r) (h' : OpR X f r') : OpR X f (fun x y H Q => r x y H Q ∨ r' x y H Q) := by
  intro pins s σ H x y v u Q I rx ry q
  exact q.elim (h pins s σ H x y v u Q I rx ry) (h' pins s σ H x y v u Q I rx ry)
theorem kx_catA (hK : X.K = K := by rfl) : OpR X (binaryOp .Add) (rCatA K) := by subst hK; exact opr_or op_cat op_catT
theorem kx_in (hK : X.K = K := by rfl) : OpR X (compareOp .In) (rIn K false) := by subst hK; exact op_in_seq
theorem kx_notin (hK : X.K = K := by rfl) : OpR X (compareOp .NotIn) (rIn K true) := by subst hK; exact op_notIn_seq
theorem kx_setL (hK : X.K = K := by rfl) (hw : X.w = w := by rfl) (hc : X.calm = true := by rfl) : CallR X (.type "set") (rSetL K w) := by subst hw; exact cr_setL hc hK
theorem kx_sortedSet (hw : X.w = w := by rfl) (hc : X.calm = true := by rfl) : CallR X (.builtin "sorted") (rSortedSet w) := by subst hw; exact cr_sortedSet hc
end
section
variable {K : PySem.W.Frag} {w : World} {δ δ' δ'' : List SV} {ta tb te : TE} {c : TT} {t u : TS} {d x y : D} {ds es : List D} {E : EndsD}
/-! ### walks over lists or tuples -/
theorem ei_enumA (h : ED K ta δ x) (e : itemsD x = some ds) : EI K (iEnumA K (tCons ta tNil)) δ (enumD ds) := by
  cases x with
  | list xs =>
    have e : xs = ds := Option.some.inj e
    subst e
    exact fun B0 H0 B H σ R S q => .inl (ei_enum h B0 H0 B H σ R S q)
  | tuple xs =>
    have e : xs = ds := Option.some.inj e
    subst e
    refine fun B0 H0 B H σ R S q => .inr (h B0 H0 B H σ _ S fun v B1 H1 s1 a => ?_)
    cases a with
    | tup hs hA =>
      refine ⟨_, _, rfl, sqT_up s1.bh hs, q _ B1 H1 s1 fun B H i e1 e2 => ⟨fun hi => ?_, fun hi => ?_⟩⟩
      · have hl : i < xs.length := by
          unfold enumD at hi
          rwa [List.length_map, List.length_range] at hi
        obtain ⟨x, g1, g2⟩ := hA.get (List.getElem?_eq_getElem hl)
        refine ⟨⟨_, x, sqT_up (e1.trans e2) hs, g1⟩, fun z H' yl => ?_⟩
        obtain ⟨T, x', rfl, nT, rfl, f1⟩ := yl
        have ex := (f1 _ (sqT_up (e1.trans e2) hs)).symm.trans g1
        cases ex
        have sn := same_new (o := .tup [.int (i : Nat), x]) (e2.free nT)
        refine ⟨upd B T (.tup [.int (i : Nat), x]), _, .new e2 nT, ?_, .tup (.inl (.inl upd_same)) (.cons (.int _) (.cons (Dq.up (e1.trans sn) _ _ g2) .nil))⟩
        unfold enumD
        rw [List.getElem?_map, List.getElem?_range hl]
        show some (PyData.tuple [.int (i : Nat), xs.getD i .none]) = _
        rw [List.getD_eq_getElem?_getD, List.getElem?_eq_getElem hl]
        rfl
      · refine ⟨_, sqT_up (e1.trans e2) hs, ?_⟩
        unfold enumD at hi
        rw [List.length_map, List.length_range] at hi
        rw [hA.len]; omega
  | _ => cases e
theorem ei_zipL (h : ED K ta δ (.list ds)) (h' : ED K tb δ (.list es)) : EI K (RZ.iZipA K (tCons ta (tCons tb tNil))) δ (zipD ds es) := fun B0 H0 B H σ R S q => by
  have := ei_zip h h' B0 H0 B H σ R S q
  refine h B0 H0 B H σ _ S fun v B1 H1 s1 a => h' B0 H0 B1 H1 σ _ (S.step s1) fun w B2 H2 s2 b => ?_
  cases a with
  | lst hs hA =>
    cases b with
    | lst ks kA =>
      have hA2 := DqAll.up s2.bb _ _ hA
      have hs2 := s2.bb.seq hs
      refine ⟨_, _, _, _, rfl, .inl ⟨s2.bh.seq hs2, s2.bh.seq ks, q _ B2 H2 (s1.trans s2) fun B H i e1 e2 => ⟨fun hi => ?_, fun hi => ?_⟩⟩⟩
      · have hl : i < (ds.zip es).length := by
          unfold zipD at hi
          rwa [List.length_map] at hi
        rw [List.length_zip] at hl
        obtain ⟨x, g1, g2⟩ := hA2.get (List.getElem?_eq_getElem (show i < ds.length by omega))
        obtain ⟨y, k1, k2⟩ := kA.get (List.getElem?_eq_getElem (show i < es.length by omega))
        refine ⟨⟨_, _, x, y, (e1.trans e2).seq hs2, (e1.trans e2).seq ks, g1, k1⟩, fun z H' yl => ?_⟩
        obtain ⟨T, x', y', rfl, nT, rfl, f1, f2⟩ := yl
        have ex := (f1 _ ((e1.trans e2).seq hs2)).symm.trans g1
        have ey := (f2 _ ((e1.trans e2).seq ks)).symm.trans k1
        cases ex; cases ey
        have sn := same_new (o := .tup [x, y]) (e2.free nT)
        refine ⟨upd B T (.tup [x, y]), _, .new e2 nT, ?_, .tup (.inl (.inl upd_same)) (.cons (Dq.up (e1.trans sn) _ _ g2) (.cons (Dq.up (e1.trans sn) _ _ k2) .nil))⟩
        unfold zipD
        have h1 : i < ds.length := by omega
        have h2 : i < es.length := by omega
        have hz : (ds.zip es)[i]? = some (ds[i], es[i]) := by
          rw [List.getElem?_zip_eq_some]
          exact ⟨List.getElem?_eq_getElem h1, List.getElem?_eq_getElem h2⟩
        rw [List.getElem?_map, hz]
        rfl
      · refine ⟨_, _, (e1.trans e2).seq hs2, (e1.trans e2).seq ks, ?_⟩
        unfold zipD at hi
        rw [List.length_map, List.length_zip] at hi
        rw [hA2.len, kA.len]
        omega
theorem ei_zipT (h : ED K ta δ (.tuple ds)) (h' : ED K tb δ (.tuple es)) : EI K (RZ.iZipA K (tCons ta (tCons tb tNil))) δ (zipD ds es) := fun B0 H0 B H σ R S q => by
  refine h B0 H0 B H σ _ S fun v B1 H1 s1 a => h' B0 H0 B1 H1 σ _ (S.step s1) fun w B2 H2 s2 b => ?_
  cases a with
  | tup hs hA =>
    cases b with
    | tup ks kA =>
      have hA2 := DqAll.up s2.bb _ _ hA
      have hs2 := sqT_up s2.bb hs
      refine ⟨_, _, _, _, rfl, .inr ⟨sqT_up s2.bh hs2, sqT_up s2.bh ks, q _ B2 H2 (s1.trans s2) fun B H i e1 e2 => ⟨fun hi => ?_, fun hi => ?_⟩⟩⟩
      · have hl : i < (ds.zip es).length := by
          unfold zipD at hi
          rwa [List.length_map] at hi
        rw [List.length_zip] at hl
        obtain ⟨x, g1, g2⟩ := hA2.get (List.getElem?_eq_getElem (show i < ds.length by omega))
        obtain ⟨y, k1, k2⟩ := kA.get (List.getElem?_eq_getElem (show i < es.length by omega))
        refine ⟨⟨_, _, x, y, sqT_up (e1.trans e2) hs2, sqT_up (e1.trans e2) ks, g1, k1⟩, fun z H' yl => ?_⟩
        obtain ⟨T, x', y', rfl, nT, rfl, f1, f2⟩ := yl
        have ex := (f1 _ (sqT_up (e1.trans e2) hs2)).symm.trans g1
        have ey := (f2 _ (sqT_up (e1.trans e2) ks)).symm.trans k1
        cases ex; cases ey
        have sn := same_new (o := .tup [x, y]) (e2.free nT)
        refine ⟨upd B T (.tup [x, y]), _, .new e2 nT, ?_, .tup (.inl (.inl upd_same)) (.cons (Dq.up (e1.trans sn) _ _ g2) (.cons (Dq.up (e1.trans sn) _ _ k2) .nil))⟩
        unfold zipD
        have h1 : i < ds.length := by omega
        have h2 : i < es.length := by omega
        have hz : (ds.zip es)[i]? = some (ds[i], es[i]) := by
          rw [List.getElem?_zip_eq_some]
          exact ⟨List.getElem?_eq_getElem h1, List.getElem?_eq_getElem h2⟩
        rw [List.getElem?_map, hz]
        rfl
      · refine ⟨_, _, sqT_up (e1.trans e2) hs2, sqT_up (e1.trans e2) ks, ?_⟩
        unfold zipD at hi
        rw [List.length_map, List.length_zip] at hi
        rw [hA2.len, kA.len]
        omega
/-! ### slices, sums of tuples, membership -/
theorem en_sliceB {tl th : TO} {lo hi : Option Int} (h : ED K te δ (.list ds)) (h1 : EO K tl δ lo) (h2 : EO K th δ hi) : EN K (tSl (rSlB K) te tl th) δ (cutD ds lo hi) := fun B0 H0 B H σ Q S q =>
  h B0 H0 B H σ _ S fun v B1 H1 s1 a => h1 B0 H0 B1 H1 σ _ (S.step s1) fun B2 H2 s2 => h2 B0 H0 B2 H2 σ _ ((S.step s1).step s2) fun B3 H3 s3 => by
    cases a with
    | lst hs hA =>
      have st := (s1.trans s2).trans s3
      refine .inl ⟨_, _, rfl, ((s2.trans s3).bb.trans s3.bh).seq hs, fun p hp => q p _ B3 _ (st.trans (.newOwn s3.bh hp)) (st.hh.free hp) (s3.bh.free hp) upd_same ?_⟩
      unfold cutV cutD
      rw [hA.len]
      exact (DqAll.up (s2.trans s3).bb _ _ hA).drop _ |>.take _
theorem ed_sliceT {tl th : TO} {lo hi : Option Int} (h : ED K te δ (.tuple ds)) (h1 : EO K tl δ lo) (h2 : EO K th δ hi) : ED K (tSl (rSlB K) te tl th) δ (.tuple (cutD ds lo hi)) := fun B0 H0 B H σ Q S q =>
  h B0 H0 B H σ _ S fun v B1 H1 s1 a => h1 B0 H0 B1 H1 σ _ (S.step s1) fun B2 H2 s2 => h2 B0 H0 B2 H2 σ _ ((S.step s1).step s2) fun B3 H3 s3 => by
    cases a with
    | @tup p vs _ hs hA =>
      have st := (s1.trans s2).trans s3
      have hs3 := sqT_up (s2.trans s3).bb hs
      have hA3 := DqAll.up (s2.trans s3).bb _ _ hA
      refine .inr ⟨_, _, rfl, sqT_up s3.bh hs3, fun hw => q _ B3 H3 st ?_, fun _ l hl => q _ (upd B3 l (.tup (cutV vs lo hi))) _ (st.trans (.new s3.bh hl)) (.tup (.inl (.inl upd_same)) ?_)⟩
      · have e : cutD ds lo hi = ds := by
          unfold cutD
          rw [hA.len] at hw
          rw [hw.1, hw.2, List.drop_zero, Nat.sub_zero, List.take_length]
        rw [e]
        exact .tup hs3 hA3
      · unfold cutV cutD
        rw [hA.len]
        exact DqAll.up (same_new (s3.bh.free hl)) _ _ ((hA3.drop _).take _)
theorem en_catA (ha : EN K ta δ ds) (hb : EN K tb δ es) (hl : ds.length + es.length ≤ sizeLine) : EN K (tOp (rCatA K) ta tb) δ (ds ++ es) := fun B0 H0 B H σ Q S q =>
  ha B0 H0 B H σ _ S fun p vs B1 H1 s1 n1 b1 e1 a1 => hb B0 H0 B1 H1 σ _ (S.step s1) fun p2 ws B2 H2 s2 n2 b2 e2 a2 =>
    .inl ⟨p, p2, vs, ws, rfl, rfl, s2.hh _ _ e1, e2, by rw [a1.len, a2.len]; exact hl, fun l hl => q l _ B2 _ ((s1.trans s2).trans (.newOwn s2.bh hl)) ((s1.trans s2).hh.free hl) (s2.bh.free hl) upd_same ((DqAll.up s2.bb _ _ a1).app a2)⟩
theorem ed_catT (ha : ED K ta δ (.tuple ds)) (hb : ED K tb δ (.tuple es)) (hn : ds ≠ []) (hl : ds.length + es.length ≤ sizeLine) : ED K (tOp (rCatA K) ta tb) δ (.tuple (ds ++ es)) := fun B0 H0 B H σ Q S q =>
  ha B0 H0 B H σ _ S fun v B1 H1 s1 a => hb B0 H0 B1 H1 σ _ (S.step s1) fun w B2 H2 s2 b => by
    cases a with
    | @tup p vs _ hs hA =>
      cases b with
      | @tup p2 ws _ ks kA =>
        have hs2 := sqT_up s2.bb hs
        have hA2 := DqAll.up s2.bb _ _ hA
        refine .inr ⟨_, _, _, _, rfl, rfl, sqT_up s2.bh hs2, sqT_up s2.bh ks, fun z => hn ?_, by rw [hA.len, kA.len]; exact hl, fun z => q _ B2 H2 (s1.trans s2) ?_, fun _ l hl2 => q _ (upd B2 l (.tup (vs ++ ws))) _ ((s1.trans s2).trans (.new s2.bh hl2)) (.tup (.inl (.inl upd_same)) (DqAll.up (same_new (s2.bh.free hl2)) _ _ (hA2.app kA)))⟩
        · have := hA.len
          rw [z] at this
          exact List.length_eq_zero_iff.mp this.symm
        · have e : es = [] := by
            have := kA.len
            rw [z] at this
            exact List.length_eq_zero_iff.mp this.symm
          rw [e, List.append_nil]
          exact .tup hs2 hA2
theorem inV_int {k : Int} : ∀ {ns : List Int}, inV (.int k) (ns.map V.int) = decide (k ∈ ns)
  | [] => by rfl
  | n :: ns => by
    have ih := inV_int (k := k) (ns := ns)
    unfold inV at ih ⊢
    rw [List.map_cons, List.any_cons, ih]
    show ((n == k) || decide (k ∈ ns)) = _
    by_cases e : n = k
    · subst e; simp
    · have e1 : (n == k) = false := by simpa using e
      have e2 : ¬ k = n := fun z => e z.symm
      simp [e1, e2]
theorem flat_ints : ∀ {ns : List Int}, (ns.map V.int).all flatV = true
  | [] => rfl
  | n :: ns => by rw [List.map_cons, List.all_cons, flat_ints]; rfl
theorem ed_inB {neg : Bool} {k : Int} {ns : List Int} (ha : ED K ta δ (.int k)) (hb : ED K tb δ y) (e : itemsD y = some (ns.map PyData.int)) : ED K (tOp (rIn K neg) ta tb) δ (.bool (if neg then !decide (k ∈ ns) else decide (k ∈ ns))) := fun B0 H0 B H σ Q S q =>
  ha B0 H0 B H σ _ S fun v B1 H1 s1 a => hb B0 H0 B1 H1 σ _ (S.step s1) fun w B2 H2 s2 b => by
    cases Dq.int_inv a
    cases b with
    | lst hs hA =>
      have e : _ = ns.map PyData.int := Option.some.inj e
      subst e
      cases hA.ints
      exact ⟨_, _, rfl, .inl (s2.bh.seq hs), rfl, flat_ints, by rw [inV_int]; exact q _ B2 H2 (s1.trans s2) (.bl _)⟩
    | tup hs hA =>
      have e : _ = ns.map PyData.int := Option.some.inj e
      subst e
      cases hA.ints
      exact ⟨_, _, rfl, .inr (sqT_up s2.bh hs), rfl, flat_ints, by rw [inV_int]; exact q _ B2 H2 (s1.trans s2) (.bl _)⟩
    | _ => cases e
theorem ed_in {k : Int} {ns : List Int} (ha : ED K ta δ (.int k)) (hb : ED K tb δ y) (e : itemsD y = some (ns.map PyData.int)) : ED K (tOp (rIn K false) ta tb) δ (.bool (decide (k ∈ ns))) := ed_inB ha hb e
theorem ed_notin {k : Int} {ns : List Int} (ha : ED K ta δ (.int k)) (hb : ED K tb δ y) (e : itemsD y = some (ns.map PyData.int)) : ED K (tOp (rIn K true) ta tb) δ (.bool (!decide (k ∈ ns))) := ed_inB ha hb e
/-- sorted(set(xs)) of ints -/
theorem ep_sortedSet {ns : List Int} (h : ED K te δ (.list (ns.map PyData.int))) (hl : ns.length ≤ 60) :
    EP K (tCB (rSortedSet w) (tCons (tCB (rSetL K w) (tCons te tNil)) tNil)) δ (fun d => ∃ ms : List Int, d = .list (ms.map PyData.int) ∧ ms.Pairwise (· < ·) ∧ (∀ k, k ∈ ms ↔ k ∈ ns) ∧ ms.length ≤ ns.length) := fun B0 H0 B H σ Q S q =>
  h B0 H0 B H σ _ S fun v B1 H1 s1 a => by
    cases a with
    | lst hs hA =>
      cases hA.ints
      refine ⟨_, ns, rfl, s1.bh.seq hs, by omega, fun z c hz hc => ⟨z, _, c, rfl, upd_same, by omega, fun ms p hp hm hlen np => ?_⟩⟩
      have s2 : Stp B1 H1 B1 (upd H1 z (SetO w z (fun j => decide (j ∈ ns)) c)) := .newOwn s1.bh hz
      refine q _ (upd B1 p (.lst (ms.map V.int))) _ _ ((s1.trans s2).trans (.new s2.bh np)) (.lst (.inl (.inl upd_same)) DqAll.ofInts) ⟨ms, rfl, hp, fun k => ?_, by omega⟩
      rw [hm k, decide_eq_true_eq]
/-! ### comprehensions with any target -/
def wipeD (δ : List SV) : List Nat → List SV
  | [] => δ
  | v :: vs => (wipeD δ vs).set v .no
theorem wipe_get {σ : L2.St} : ∀ (vs : List Nat) (j : Nat), (wipe σ vs)[j]? = if j ∈ vs then (σ[j]?).map (fun _ => none) else σ[j]?
  | [], j => by simp [wipe]
  | v :: vs, j => by
    show ((wipe σ vs).set v none)[j]? = _
    by_cases e : v = j
    · subst e
      rw [if_pos (List.mem_cons_self ..), List.getElem?_set]
      rw [if_pos rfl, wipe_length]
      by_cases hl : v < σ.length
      · rw [if_pos hl, List.getElem?_eq_getElem hl]; rfl
      · rw [if_neg hl, List.getElem?_eq_none (by omega)]; rfl
    · rw [List.getElem?_set_ne e, wipe_get vs j]
      by_cases h : j ∈ vs
      · rw [if_pos h, if_pos (List.mem_cons_of_mem _ h)]
      · rw [if_neg h, if_neg (fun z => (List.mem_cons.mp z).elim (fun q => e q.symm) h)]
theorem wipe_set {σ : L2.St} {vs : List Nat} {i : Nat} {x : Option V} (h : i ∈ vs) : wipe (σ.set i x) vs = wipe σ vs := by
  apply List.ext_getElem?
  intro j
  rw [wipe_get, wipe_get]
  by_cases hj : j ∈ vs
  · rw [if_pos hj, if_pos hj]
    by_cases e : i = j
    · subst e
      rw [List.getElem?_set, if_pos rfl]
      by_cases hl : i < σ.length
      · rw [if_pos hl, List.getElem?_eq_getElem hl]; rfl
      · rw [if_neg hl, List.getElem?_eq_none (by omega)]
    · rw [List.getElem?_set_ne e]
  · rw [if_neg hj, if_neg hj, List.getElem?_set_ne (fun (z : i = j) => hj (z ▸ h))]
theorem wipe_wipe {σ : L2.St} {vs : List Nat} : wipe (wipe σ vs) vs = wipe σ vs := by
  apply List.ext_getElem?
  intro j
  rw [wipe_get, wipe_get]
  by_cases hj : j ∈ vs
  · rw [if_pos hj, if_pos hj, Option.map_map]; rfl
  · rw [if_neg hj, if_neg hj]
theorem Sd.wipe {B0 H0 B H : Hp} {σ : L2.St} (S : Sd K B0 H0 B H σ δ) : ∀ vs : List Nat, Sd K B0 H0 B H (L2.wipe σ vs) (wipeD δ vs)
  | [] => S
  | v :: vs => (Sd.wipe S vs).forget
def GW (K : PySem.W.Frag) (g : TG) (vs : List Nat) (δ : List SV) (d : D) (δ' : List SV) : Prop := ∀ (B0 H0 B H : Hp) (σ : L2.St) (v : V) (Q : L2.St → Hp → Prop), Sd K B0 H0 B H σ δ → Dq K B v d → (∀ σ', Sd K B0 H0 B H σ' δ' → L2.wipe σ' vs = L2.wipe σ vs → Q σ' H) → g v σ H Q
def GWs (K : PySem.W.Frag) (g : TGs) (vs : List Nat) (δ : List SV) (ds : List D) (δ' : List SV) : Prop := ∀ (B0 H0 B H : Hp) (σ : L2.St) (us : List V) (Q : L2.St → Hp → Prop), Sd K B0 H0 B H σ δ → DqAll K B us ds → (∀ σ', Sd K B0 H0 B H σ' δ' → L2.wipe σ' vs = L2.wipe σ vs → Q σ' H) → g us σ H Q
theorem gw_name {i : Nat} {vs : List Nat} (h : i ∈ vs) : GW K (gName i) vs δ d (δ.set i (.val d)) := fun B0 H0 B H σ v Q S a q => q _ (S.setVal a) (wipe_set h)
theorem gws_nil {vs : List Nat} : GWs K gNil vs δ [] δ := fun B0 H0 B H σ us Q S h q => by
  cases h
  exact ⟨rfl, q σ S rfl⟩
theorem gws_cons {g : TG} {gs : TGs} {vs : List Nat} (h1 : GW K g vs δ d δ') (h2 : GWs K gs vs δ' ds δ'') : GWs K (gCons g gs) vs δ (d :: ds) δ'' := fun B0 H0 B H σ us Q S h q => by
  cases h with
  | cons a b => exact ⟨_, _, rfl, h1 B0 H0 B H σ _ _ S a fun σ' S' e => h2 B0 H0 B H σ' _ _ S' b fun σ2 S2 e2 => q σ2 S2 (e2.trans e)⟩
theorem gw_tup {g : TGs} {n : Nat} {vs : List Nat} (h : GWs K g vs δ ds δ') (e : ds.length = n) : GW K (gTup K n g) vs δ (.tuple ds) δ' := fun B0 H0 B H σ v Q S a q => by
  cases a with
  | tup hs hA => exact ⟨_, _, rfl, sqT_up S.hist.bh hs, hA.len.trans e, h B0 H0 B H σ _ Q S hA q⟩
theorem en_lcW {α : Type} {xs : List α} {gd : α → D} {wi : TI} {g : TG} {tt : TT} {vs : List Nat} {p : α → Bool} {f : α → D} {af : α → List SV} (hw : EI K wi δ (xs.map gd)) (hl : xs.length ≤ sizeLine)
    (hg : ∀ x, x ∈ xs → GW K g vs (wipeD δ vs) (gd x) (af x)) (ht : ∀ x, x ∈ xs → ET K tt (af x) (p x)) (he : ∀ x, x ∈ xs → p x = true → ED K te (af x) (f x)) : EN K (tLc wi g tt te vs) δ ((xs.filter p).map f) := fun B0 H0 B H σ Q S q =>
  hw B0 H0 B H σ _ S fun J B1 H1 s1 yd L nL => by
    have S1 := S.step s1
    refine ⟨fun k m H' => m = xs.length - k ∧ k ≤ xs.length ∧ ∃ B' acc, Sd K B1 H0 B' H' σ δ ∧ B' L = none ∧ H' L = some (.lst acc) ∧ DqAll K B' acc (((xs.take k).filter p).map f) ∧ Stp B1 H1 B' H', ⟨_, rfl, Nat.zero_le _, B1, [], ?_, s1.bh.free nL, upd_same, ?_, .newOwn s1.bh nL⟩, ?_⟩
    · exact (S1.past S1.hist.bb (Same.refl _)).step (.newOwn s1.bh nL)
    · rw [List.take_zero]; exact .nil
    rintro k m H' ⟨rfl, hk, B', acc, S', bL, hL, hA, sp⟩
    obtain ⟨y1, y2⟩ := yd B' H' k S'.hist.bb S'.hist.bh
    by_cases hlt : k < xs.length
    · obtain ⟨go, yy⟩ := y1 (by rw [List.length_map]; exact hlt)
      refine .inr ⟨go, fun H'' => ∃ B'' acc, Sd K B1 H0 B'' H'' σ δ ∧ B'' L = none ∧ H'' L = some (.lst acc) ∧ DqAll K B'' acc (((xs.take (k + 1)).filter p).map f) ∧ Stp B1 H1 B'' H'', fun H'' z => ⟨xs.length - (k + 1), by omega, rfl, hlt, z⟩, fun x H2 yl => ?_⟩
      obtain ⟨B2, d', s2, ed', dp⟩ := yy x H2 yl
      have ed : xs[k]? = some xs[k] := List.getElem?_eq_getElem hlt
      have eg : d' = gd xs[k] := by
        rw [List.getElem?_map, ed] at ed'
        exact (Option.some.inj ed').symm
      subst eg
      have hm : xs[k] ∈ xs := List.getElem_mem hlt
      have hLne : H' L ≠ none := by rw [hL]; exact fun z => nomatch z
      have S2 := S'.step s2
      refine hg xs[k] hm B1 H0 B2 H2 _ _ _ (S2.wipe vs) dp fun σ3 S3 ew => ⟨ew.trans wipe_wipe, ht xs[k] hm B1 H0 B2 H2 _ _ S3 fun B3 H3 s3 => ?_⟩
      cases e : p xs[k] with
      | true =>
        refine iteT (he xs[k] hm e B1 H0 B3 H3 _ _ (S3.step s3) fun v B4 H4 s4 dv => ?_)
        have st := (s2.trans s3).trans s4
        have hL4 : H4 L = some (.lst acc) := st.hh _ _ hL
        have bL4 : B4 L = none := st.fr L hLne bL
        have hA4 := DqAll.up st.bb _ _ hA
        refine ⟨acc, hL4, ?_, B4, acc ++ [v], ?_, bL4, upd_same, ?_, ?_⟩
        · have h1 := hA.len
          have h2 : (((xs.take k).filter p).map f).length ≤ k := by
            rw [List.length_map]
            exact Nat.le_trans (List.length_filter_le _ _) (by rw [List.length_take]; omega)
          omega
        · have S4 := (S'.step st)
          refine ⟨⟨S4.hist.bb, fun a o ea => ?_, fun a o ea => ?_, S4.hist.fr⟩, S4.len, fun j z ej => ?_, S4.apart⟩
          · have : a ≠ L := fun z => by subst z; rw [bL4] at ea; cases ea
            rw [upd_ne this]; exact S4.hist.bh _ _ ea
          · have : a ≠ L := fun z => by
              subst z
              have := S1.hist.hh _ _ ea
              rw [nL] at this; cases this
            rw [upd_ne this]; exact S4.hist.hh _ _ ea
          · obtain ⟨o, eo, ok⟩ := S4.ok j z ej
            refine ⟨o, eo, ?_⟩
            cases z with
            | no => exact True.intro
            | val d => exact ok
            | own es =>
              obtain ⟨pp, vs, e1, e2, e3, e4, e5⟩ := ok
              have hne : pp ≠ L := fun z => by
                subst z
                obtain ⟨o', eo', ok'⟩ := S1.ok j _ ej
                obtain ⟨pp', vs', f1, f2, _⟩ := ok'
                rw [eo] at eo'; cases eo'
                rw [e1] at f1; cases f1
                rw [nL] at f2; cases f2
              exact ⟨pp, vs, e1, by rw [upd_ne hne]; exact e2, e3, e4, e5⟩
        · rw [map_take_succ ed, if_pos e]
          exact hA4.app (.cons dv .nil)
        · have sq := sp.trans st
          refine ⟨sq.bb, fun a o ea => ?_, fun a o ea => ?_, sq.fr⟩
          · have : a ≠ L := fun z => by subst z; rw [bL4] at ea; cases ea
            rw [upd_ne this]; exact sq.bh _ _ ea
          · have : a ≠ L := fun z => by subst z; rw [nL] at ea; cases ea
            rw [upd_ne this]; exact sq.hh _ _ ea
      | false =>
        refine iteF ⟨B3, acc, S'.step (s2.trans s3), (s2.trans s3).fr L hLne bL, (s2.trans s3).hh _ _ hL, ?_, sp.trans (s2.trans s3)⟩
        rw [map_take_succ ed, e, if_neg Bool.false_ne_true, List.append_nil]
        exact DqAll.up (s2.trans s3).bb _ _ hA
    · have e : k = xs.length := by omega
      subst e
      rw [List.take_length] at hA
      exact .inl ⟨y2 (by rw [List.length_map]), q L acc B' H' (s1.trans sp) (s1.hh.free nL) bL hL hA⟩
theorem en_lcA {α : Type} {xs : List α} {gd : α → D} {wi : TI} {g : TG} {vs : List Nat} {f : α → D} {af : α → List SV} (hw : EI K wi δ (xs.map gd)) (hl : xs.length ≤ sizeLine)
    (hg : ∀ x, x ∈ xs → GW K g vs (wipeD δ vs) (gd x) (af x)) (he : ∀ x, x ∈ xs → ED K te (af x) (f x)) : EN K (tLc wi g tYes te vs) δ (xs.map f) := by
  have := en_lcW (p := fun _ => true) (f := f) (te := te) hw hl hg (fun _ _ => et_yes) fun d hd _ => he d hd
  rwa [List.filter_eq_self.mpr (fun _ _ => rfl)] at this
end
end DX

namespace DX
open PySem L2
section
variable {K : PySem.W.Frag} {w : World} {δ δ' δ'' : List SV} {ta tb te : TE} {c : TT} {t u : TS} {d x y : D} {ds es : List D} {E : EndsD}
theorem EP.mono {P P' : D → Prop} (h : EP K te δ P) (m : ∀ d, P d → P' d) : EP K te δ P' := fun B0 H0 B H σ Q S q => h B0 H0 B H σ Q S fun v B' H' d s a p => q v B' H' d s a (m d p)
theorem ep_catT {P Q : D → Prop} (ha : ED K ta δ (.tuple ds)) (hb : EP K tb δ P) (h : ∀ d, P d → ∃ es, d = .tuple es ∧ ds ≠ [] ∧ ds.length + es.length ≤ sizeLine ∧ Q (.tuple (ds ++ es))) : EP K (tOp (rCatA K) ta tb) δ Q := fun B0 H0 B H σ q0 S q =>
  ha B0 H0 B H σ _ S fun v B1 H1 s1 a => hb B0 H0 B1 H1 σ _ (S.step s1) fun w B2 H2 d s2 b pd => by
    obtain ⟨es, rfl, hn, hl, pq⟩ := h d pd
    cases a with
    | @tup p vs _ hs hA =>
      cases b with
      | @tup p2 ws _ ks kA =>
        have hs2 := sqT_up s2.bb hs
        have hA2 := DqAll.up s2.bb _ _ hA
        refine .inr ⟨_, _, _, _, rfl, rfl, sqT_up s2.bh hs2, sqT_up s2.bh ks, fun z => hn ?_, by rw [hA.len, kA.len]; exact hl, fun z => q _ B2 H2 _ (s1.trans s2) ?_ pq, fun _ l hl2 => q _ (upd B2 l (.tup (vs ++ ws))) _ _ ((s1.trans s2).trans (.new s2.bh hl2)) (.tup (.inl (.inl upd_same)) (DqAll.up (same_new (s2.bh.free hl2)) _ _ (hA2.app kA))) pq⟩
        · have := hA.len
          rw [z] at this
          exact List.length_eq_zero_iff.mp this.symm
        · have e : es = [] := by
            have := kA.len
            rw [z] at this
            exact List.length_eq_zero_iff.mp this.symm
          rw [e, List.append_nil]
          exact .tup hs2 hA2
theorem wp_appP {i : Nat} {P : D → Prop} (e : δ[i]? = some (.own (.l ds))) (h : EP K te δ P) (hl : ds.length < sizeLine) (q : ∀ d, P d → E.nx (δ.set i (.own (.l (ds ++ [d]))))) : WP K (tDrop (tBM K "list" rAppend (tVar i) (tCons te tNil))) E δ := fun B0 H0 B H σ D L S => by
  obtain ⟨p, vs, a1, hp, bp, h0, dp⟩ := S.slotOwn e
  refine ⟨_, a1, .inl ⟨rfl, vs, .inl (.inl hp)⟩, h B0 H0 B H σ _ S fun v B1 H1 d s1 a pd => ?_⟩
  have S1 := S.step s1
  obtain ⟨p', vs', a1', hp', bp', h0', dp'⟩ := S1.slotOwn e
  rw [a1] at a1'; cases a1'
  refine ⟨p, vs', v, rfl, rfl, hp', by rw [dp'.len]; exact hl, L.nx _ _ B1 _ (own_upd (yo := .l _) S1 e a1 bp' h0' ⟨_, rfl, dp'.app (.cons a .nil)⟩) (q d pd)⟩
/-- arguments of which one is known by a property -/
def EAP (K : PySem.W.Frag) (ta : TA) (δ : List SV) (P : List D → Prop) : Prop := ∀ (B0 H0 B H : Hp) (σ : L2.St) (Q : List V → Hp → Prop), Sd K B0 H0 B H σ δ → (∀ vs B' H' ds, Stp B H B' H' → DqAll K B' vs ds → P ds → Q vs H') → ta σ H Q
theorem eap_nil : EAP K tNil δ (fun ds => ds = []) := fun B0 H0 B H σ Q S q => q [] B H [] (.refl S.hist.bh) .nil rfl
theorem eap_cons {tr : TA} {P : D → Prop} {R : List D → Prop} (h : EP K te δ P) (hr : EAP K tr δ R) : EAP K (tCons te tr) δ (fun ds => ∃ d es, ds = d :: es ∧ P d ∧ R es) := fun B0 H0 B H σ Q S q =>
  h B0 H0 B H σ _ S fun v B1 H1 d s1 a p => hr B0 H0 B1 H1 σ _ (S.step s1) fun vs B2 H2 es s2 b r => q _ B2 H2 _ (s1.trans s2) (.cons (Dq.up s2.bb _ _ a) b) ⟨d, es, rfl, p, r⟩
theorem ep_tup {ta : TA} {P : List D → Prop} (h : EAP K ta δ P) (hl : ∀ ds, P ds → ds.length ≤ sizeLine) : EP K (tTup ta) δ (fun d => ∃ ds, d = .tuple ds ∧ P ds) := fun B0 H0 B H σ Q S q =>
  h B0 H0 B H σ _ S fun vs B1 H1 ds s1 a p => ⟨by rw [a.len]; exact hl ds p, fun l hp =>
    q (.ref l) (upd B1 l (.tup vs)) _ _ (s1.trans (.new s1.bh hp)) (.tup (.inl (.inl upd_same)) (DqAll.up (same_new (s1.bh.free hp)) _ _ a)) ⟨ds, rfl, p⟩⟩
theorem ep_callP {ta : TA} {Pre : List D → Prop} {Post : List D → D → Prop} {X : XK} {R : List D → Prop} (h : EAP K ta δ R) (r : ∀ ds, R ds → Pre ds) : EP K (tCall (spP K Pre Post) [] X ta) δ (fun d => ∃ ds, R ds ∧ Post ds d) := fun B0 H0 B H σ Q S q =>
  h B0 H0 B H σ _ S fun vs B1 H1 ds s1 a p => ⟨B1, ds, r ds p, s1.bh, by rw [List.append_nil]; exact a, fun v B' H' d s2 b p2 => q v B' H' d (s1.trans s2) b ⟨ds, p, p2⟩⟩
theorem ep_callD {ta : TA} {R : List D → D → Prop} {X : XK} {P : List D → Prop} (h : EAP K ta δ P) (r : ∀ ds, P ds → ∃ d, R ds d) : EP K (tCall (spD K R) [] X ta) δ (fun d => ∃ ds, P ds ∧ R ds d) := fun B0 H0 B H σ Q S q =>
  h B0 H0 B H σ _ S fun vs B1 H1 ds s1 a p => by
    obtain ⟨d, rd⟩ := r ds p
    exact ⟨B1, ds, d, rd, s1.bh, by rw [List.append_nil]; exact a, fun v B' H' s2 b => q v B' H' d (s1.trans s2) b ⟨ds, p, rd⟩⟩
end
end DX
namespace DX
open PySem L2
local macro_rules | `(tactic| walk_at "ev1") => `(tactic| with_reducible first
  | exact ed_int | exact ed_bl | exact ed_non | exact ed_str
  | refine' ed_var ?_
  | refine' ed_rI0 ?_ ?_ ?_
  | refine' ed_rI ?_ ?_ ?_ ?_
  | refine' ed_rU ?_ ?_
  | refine' ed_ix ?_ ?_ ?_
  | refine' ed_tup ?_ ?_
  | exact ea_nil | refine' ea_cons ?_ ?_
  | refine' ed_len ?_ ?_ | refine' ed_abs ?_ | refine' ed_max2 ?_ ?_ | refine' ed_min2 ?_ ?_ | refine' ed_int1 ?_ ?_
  | refine' ed_gcd ?_ ?_ | refine' ed_lcm ?_ ?_ ?_ ?_
  | refine' ed_call ?_ ?_
  | refine' ed_isi ?_ ?_
  | refine' ed_isB ?_ ?_ | refine' ed_notB ?_ ?_
  | refine' ed_eqD ?_ ?_ ?_ ?_ ?_ | refine' ed_neD ?_ ?_ ?_ ?_ ?_
  | refine' et_test ?_ | refine' et_B ?_
  | refine' et_and ?_ (fun _ => ?_) | refine' et_or ?_ (fun _ => ?_) | refine' et_not ?_
  | refine' ed_andV ?_ (fun _ => ?_) | refine' ed_orV ?_ (fun _ => ?_) | refine' ed_notV ?_
  | refine' EN.ed (en_lst ?_ ?_) | refine' EN.ed (en_rep ?_ ?_ ?_ ?_) | refine' EN.ed (en_cat ?_ ?_ ?_)
  | refine' en_lst ?_ ?_ | refine' en_rep ?_ ?_ ?_ ?_ | refine' en_cat ?_ ?_ ?_ | refine' en_list ?_ ?_ | refine' EN.ed (en_list ?_ ?_)
  | refine' ei_seq ?_ ?_ | refine' ei_rngN ?_ ?_ ?_ | refine' ei_zipL ?_ ?_ | refine' ei_zipT ?_ ?_ | refine' ei_enumA ?_ ?_
  | refine' ed_in ?_ ?_ ?_ | refine' ed_notin ?_ ?_ ?_ | refine' ed_catT ?_ ?_ ?_ ?_ | refine' en_catA ?_ ?_ ?_ | refine' ed_sliceT ?_ ?_ ?_ | refine' en_sliceB ?_ ?_ ?_ | refine' eo_some ?_ | exact eo_none
  | refine' ed_isN ?_ | refine' ed_notN ?_ | refine' et_truth ?_ ?_ | refine' ed_lenD ?_
  | exact Sc.int _ | exact Sc.bl _ | exact Shp.shaped shp_num | exact Shp.shaped (n := 0) shp_int | exact Shp.shaped (n := 1) shp_ints)
local macro_rules | `(tactic| walk_at "ev2") => `(tactic| first | walk_at "ev1" | rfl | exact Sc.int _ | exact Sc.bl _ | exact sz_small (by simp; done) | exact powX (by decide))
local macro_rules | `(tactic| walk_at "ev") => `(tactic| repeat' (walk_at "ev2"))
local macro_rules | `(tactic| walk_at "sh") => `(tactic| first | exact Shp.shaped (n := 0) shp_int | exact Shp.shaped (n := 1) shp_ints | exact Shp.shaped (n := 1) shp_num)

def topS (i : Nat) : Stmt := PySem.Challenge.pw_loadorloose_k22_rigid_motions.main.body.getD i (.Pass ⟨0, 0, 0, 0⟩)
abbrev s_is_rigid : Stmt := topS 1
abbrev N_is_rigid : List Str := ["points", "motion", "size", "turned", "ways", "x", "y", "v", "w", "k"]
theorem sc_is_rigid : FnScope N_is_rigid ["points", "motion"] (defScope s_is_rigid) := ⟨rfl, rfl, rfl, by decide +kernel, rfl, by decide +kernel, by decide +kernel⟩
abbrev s_apart : Stmt := topS 2
abbrev N_apart : List Str := ["points", "motion", "k", "x", "y", "v", "w"]
theorem sc_apart : FnScope N_apart ["points", "motion", "k"] (defScope s_apart) := ⟨rfl, rfl, rfl, by decide +kernel, rfl, by decide +kernel, by decide +kernel⟩
abbrev s_u_law_cell : Stmt := topS 4
abbrev N_u_law_cell : List Str := ["script", "k"]
theorem sc_u_law_cell : FnScope N_u_law_cell ["script", "k"] (defScope s_u_law_cell) := ⟨rfl, rfl, rfl, by decide +kernel, rfl, by decide +kernel, by decide +kernel⟩
abbrev s_u_law_parts : Stmt := topS 5
abbrev N_u_law_parts : List Str := ["cell", "sizes", "parts", "left", "k", "mixed"]
theorem sc_u_law_parts : FnScope N_u_law_parts ["cell", "sizes"] (defScope s_u_law_parts) := ⟨rfl, rfl, rfl, by decide +kernel, rfl, by decide +kernel, by decide +kernel⟩
abbrev s_u_law_points : Stmt := topS 13
abbrev N_u_law_points : List Str := ["script", "n", "size", "points", "k", "parts"]
theorem sc_u_law_points : FnScope N_u_law_points ["script", "n", "size"] (defScope s_u_law_points) := ⟨rfl, rfl, rfl, by decide +kernel, rfl, by decide +kernel, by decide +kernel⟩
abbrev s_u_law_rigid : Stmt := topS 18
abbrev N_u_law_rigid : List Str := ["points", "motion", "pairs", "i", "j", "d", "w", "spin", "size", "other", "less"]
theorem sc_u_law_rigid : FnScope N_u_law_rigid ["points", "motion"] (defScope s_u_law_rigid) := ⟨rfl, rfl, rfl, by decide +kernel, rfl, by decide +kernel, by decide +kernel⟩
abbrev s_law : Stmt := topS 19
abbrev N_law : List Str := ["script", "parts", "n", "points", "a", "b", "c", "motion", "digits", "k", "told", "p"]
theorem sc_law : FnScope N_law ["script"] (defScope s_law) := ⟨rfl, rfl, rfl, by decide +kernel, rfl, by decide +kernel, by decide +kernel⟩
structure Txt (K : PySem.W.Frag) (mg : Str → Option Value) where
  f_is_rigid : Addr
  fd_is_rigid : FuncData
  F_is_rigid : Fun K "is_rigid" "is_rigid" s_is_rigid f_is_rigid fd_is_rigid
  g_is_rigid : mg "is_rigid" = some (.ref f_is_rigid)
  b_is_rigid : Binds K fd_is_rigid ["points", "motion"] []
  f_apart : Addr
  fd_apart : FuncData
  F_apart : Fun K "apart" "apart" s_apart f_apart fd_apart
  g_apart : mg "apart" = some (.ref f_apart)
  b_apart : Binds K fd_apart ["points", "motion", "k"] []
  f_u_law_cell : Addr
  fd_u_law_cell : FuncData
  F_u_law_cell : Fun K "_law_cell" "_law_cell" s_u_law_cell f_u_law_cell fd_u_law_cell
  g_u_law_cell : mg "_law_cell" = some (.ref f_u_law_cell)
  b_u_law_cell : Binds K fd_u_law_cell ["script", "k"] []
  f_u_law_parts : Addr
  fd_u_law_parts : FuncData
  F_u_law_parts : Fun K "_law_parts" "_law_parts" s_u_law_parts f_u_law_parts fd_u_law_parts
  g_u_law_parts : mg "_law_parts" = some (.ref f_u_law_parts)
  b_u_law_parts : Binds K fd_u_law_parts ["cell", "sizes"] []
  f_u_law_points : Addr
  fd_u_law_points : FuncData
  F_u_law_points : Fun K "_law_points" "_law_points" s_u_law_points f_u_law_points fd_u_law_points
  g_u_law_points : mg "_law_points" = some (.ref f_u_law_points)
  b_u_law_points : Binds K fd_u_law_points ["script", "n", "size"] []
  f_u_law_rigid : Addr
  fd_u_law_rigid : FuncData
  F_u_law_rigid : Fun K "_law_rigid" "_law_rigid" s_u_law_rigid f_u_law_rigid fd_u_law_rigid
  g_u_law_rigid : mg "_law_rigid" = some (.ref f_u_law_rigid)
  b_u_law_rigid : Binds K fd_u_law_rigid ["points", "motion"] []
  f_law : Addr
  fd_law : FuncData
  F_law : Fun K "law" "law" s_law f_law fd_law
  g_law : mg "law" = some (.ref f_law)
  z_all : mg "all" = none
  z_bool : mg "bool" = none
  z_int : mg "int" = none
  z_isinstance : mg "isinstance" = none
  z_len : mg "len" = none
  z_range : mg "range" = none
  z_tuple : mg "tuple" = none
section
variable {P : Program} {w : World} {K : PySem.W.Frag} {mg : Str → Option Value} {base : Heap}
theorem atI_map {α : Type} {xs : List α} {g : α → D} {k : Nat} {x : α} (h : xs[k]? = some x) : atI (xs.map g) (k : Int) = some (g x) := atI_nat (by rw [List.getElem?_map, h]; rfl)

def Sm (k : Nat) (a : Int × Int) : Prop := Lt k a.1 ∧ Lt k a.2 ∧ a.2 ≠ 0
/-! ### the law's own helpers -/
def R_cell (ds : List D) (d : D) : Prop := ∃ (ns : List Int) (k : Nat), ds = [.list (ns.map PyData.int), .int k] ∧ d = .int (ns.getD k 0)
theorem ok_u_law_cell (T : Txt K mg) : FnOk P w K mg base CX0 1 T.f_u_law_cell T.fd_u_law_cell ["script", "k"] (spD K R_cell) := by
  refine ok_wp T.F_u_law_cell sc_u_law_cell ?_ (fun cdv A outer s H E hr => ⟨_, (pss_cons (ps_if (pt_cmpR op_lt (pv 1) (pe_callB (kx_len (K := K)) (by rfl) T.z_len (by decide +kernel) (pa_cons (pv 0) pa_nil)) (nomark _)) (pss_one (ps_ret (pe_ix (kx_ix (K := K)) (pv 0) (pv 1) (fun _ _ => rfl)))) pss_nil)
      (pss_one (ps_ret pe_int))), ?_⟩)
  all_goals (try simp only [nox_K, blk_K, cx_K])
  · rintro ds d ⟨ns, k, rfl, _⟩; rfl
  · rintro ds d ⟨ns, k, rfl, rfl⟩
    refine wp_seq (wp_if (by walk_at "ev") (fun h => ?_) (fun h => ?_))
    · have h : (k : Int) < ((ns.map PyData.int).length : Nat) := of_decide_eq_true h
      rw [List.length_map] at h
      have hk : k < ns.length := by omega
      refine wp_ret (d := .int ns[k]) (by walk_at "ev"; exact atI_map (List.getElem?_eq_getElem hk)) ?_
      show PyData.int _ = .int _
      rw [List.getD_eq_getElem?_getD, List.getElem?_eq_getElem hk]
      rfl
    · have h : ¬ (k : Int) < ((ns.map PyData.int).length : Nat) := of_decide_eq_false h
      rw [List.length_map] at h
      refine wp_next (wp_ret (by walk_at "ev") ?_)
      show PyData.int _ = .int _
      rw [List.getD_eq_getElem?_getD, List.getElem?_eq_none (by omega)]
      rfl
def mixM (cell : Int) (k : Nat) : Int :=
  let m1 := (cell * 48271 + (k : Int) * 69621 + 11) % 2147483647
  ((m1 * m1 + 16807 * (k : Int) + 5) % 998244353).fdiv 7
def partsM (cell : Int) : List Int → Nat → Int → List Int
  | [], _, _ => []
  | s :: ss, k, left => (if left ≥ 0 then left % s else mixM cell k % s) :: partsM cell ss (k + 1) (if left ≥ 0 then left.fdiv s else left)
def partsOf (cell : Int) (sizes : List Int) : List Int := partsM cell sizes 0 (cell - 10 ^ 18)
def R_parts (ds : List D) (d : D) : Prop := ∃ (cell : Int) (sizes : List Int), ds = [.int cell, .list (sizes.map PyData.int)] ∧ (∀ s ∈ sizes, 0 < s ∧ Lt 8000 s) ∧ sizes.length ≤ 1000 ∧ d = .list ((partsOf cell sizes).map PyData.int)
theorem ok_u_law_parts (T : Txt K mg) : FnOk P w K mg base CX0 1 T.f_u_law_parts T.fd_u_law_parts ["cell", "sizes"] (spD K R_parts) := by
  refine ok_wp T.F_u_law_parts sc_u_law_parts ?_ (fun cdv A outer s H E hr => ⟨_, (pss_cons (ps_set (i := 2) sc_u_law_parts.nd rfl (by first | exact Or.inl rfl | exact Or.inr rfl) (pe_lst pa_nil))
      (pss_cons (ps_set (i := 3) sc_u_law_parts.nd rfl (by first | exact Or.inl rfl | exact Or.inr rfl) (pe_op op_sub (pv 0) (pe_op op_pow pe_int pe_int)))
      (pss_cons (ps_for PassesOwn.never rfl (pi_range1 (by rfl) T.z_range (pa_cons (pe_callB (kx_len (K := K)) (by rfl) T.z_len (by decide +kernel) (pa_cons (pv 1) pa_nil)) pa_nil)) (pg_name (i := 4) sc_u_law_parts.nd rfl (by first | exact Or.inl rfl | exact Or.inr rfl))
      (pss_one (ps_if (pt_cmpR op_ge (pv 3) pe_int (nomark _)) (pss_cons (ps_expr (pe_bm PySem.F.plainAttrs_list PySem.F.slot_list_append PySem.F.type_list_append mt_append (pv 2) (pa_cons (pe_op op_mod (pe_callTy cr_intQ (by rfl) T.z_int (by decide +kernel) (pa_cons (pv 3) pa_nil)) (pe_ix (kx_ix (K := K)) (pv 1) (pv 4) (fun _ _ => rfl))) pa_nil)))
      (pss_one (ps_set (i := 3) sc_u_law_parts.nd rfl (by first | exact Or.inl rfl | exact Or.inr rfl) (pe_op op_fdivX (pv 3) (pe_ix (kx_ix (K := K)) (pv 1) (pv 4) (fun _ _ => rfl)))))) (pss_cons (ps_set (i := 5) sc_u_law_parts.nd rfl (by first | exact Or.inl rfl | exact Or.inr rfl) (pe_op op_mod (pe_callTy cr_intQ (by rfl) T.z_int (by decide +kernel) (pa_cons (pe_op op_add (pe_op op_add (pe_op op_mulX (pv 0) pe_int) (pe_op op_mulX (pv 4) pe_int)) pe_int) pa_nil)) pe_int))
      (pss_cons (ps_set (i := 5) sc_u_law_parts.nd rfl (by first | exact Or.inl rfl | exact Or.inr rfl) (pe_op op_mod (pe_callTy cr_intQ (by rfl) T.z_int (by decide +kernel) (pa_cons (pe_op op_add (pe_op op_add (pe_op op_mulX (pv 5) (pv 5)) (pe_op op_mulX pe_int (pv 4))) pe_int) pa_nil)) pe_int))
      (pss_one (ps_expr (pe_bm PySem.F.plainAttrs_list PySem.F.slot_list_append PySem.F.type_list_append mt_append (pv 2) (pa_cons (pe_op op_mod (pe_callTy cr_intQ (by rfl) T.z_int (by decide +kernel) (pa_cons (pe_op op_fdivX (pv 5) pe_int) pa_nil)) (pe_ix (kx_ix (K := K)) (pv 1) (pv 4) (fun _ _ => rfl))) pa_nil)))))))))
      (pss_one (ps_ret (pv 2)))))), ?_⟩)
  all_goals (try simp only [nox_K, blk_K, cx_K])
  · rintro ds d ⟨cell, sizes, rfl, _⟩; rfl
  · rintro ds d ⟨cell, sizes, rfl, hs, hl, rfl⟩
    refine wp_seq (wp_asgN (by walk_at "ev") ?_)
    refine wp_seq (wp_asg (ED.of (d' := .int (cell - 10 ^ 18)) (by walk_at "ev") rfl) ?_)
    refine wp_seq (wp_forG (xs := List.range sizes.length) (g := fun k => PyData.int (k : Nat))
      (fun k δ => ∃ (ps : List Int) (left : Int) (z w : SV), δ = [.val (.int cell), .val (.list (sizes.map PyData.int)), .own (.l (ps.map PyData.int)), .val (.int left), z, w] ∧ k ≤ sizes.length ∧ ps.length = k ∧ ps ++ partsM cell (sizes.drop k) k left = partsOf cell sizes)
      (by repeat' first | walk_at "ev2" | (show (_ : Int) = _; rw [List.length_map]; done) | (show (_ : Nat) ≤ _; omega) | fail) ⟨[], _, _, _, rfl, Nat.zero_le _, rfl, by rw [List.drop_zero]; rfl⟩ ?_ ?_)
    · rintro k x δ ex ⟨ps, left, z, w, rfl, hk, hp, inv⟩
      have hk2 : k < sizes.length := by
        have := (List.getElem?_eq_some_iff.mp ex).1
        rwa [List.length_range] at this
      have hx : x = k := by
        rw [List.getElem?_range hk2] at ex
        exact (Option.some.inj ex).symm
      subst hx
      obtain ⟨s0, s1⟩ := hs sizes[x] (List.getElem_mem hk2)
      have at1 : atI (sizes.map PyData.int) (x : Int) = some (.int sizes[x]) := atI_map (List.getElem?_eq_getElem hk2)
      rw [List.drop_eq_getElem_cons hk2] at inv
      refine wp_if (by walk_at "ev") (fun h => ?_) (fun h => ?_)
      · have h : left ≥ 0 := of_decide_eq_true h
        refine wp_seq (wp_app (d := .int (left % sizes[x])) rfl (by repeat' first | walk_at "ev2" | exact at1 | exact s0 | fail) (by rw [List.length_map]; exact small1000 (by omega)) ?_)
        refine wp_asg (by repeat' first | walk_at "ev2" | exact at1 | exact divX (by omega) s1 | fail) ?_
        refine ⟨ps ++ [left % sizes[x]], left.fdiv sizes[x], .val (.int x), w, ?_, hk2, by rw [List.length_append, hp]; rfl, ?_⟩
        · rw [List.map_append]; rfl
        · rw [← inv, partsM, if_pos h, if_pos h, List.append_assoc]; rfl
      · have h : ¬ left ≥ 0 := of_decide_eq_false h
        refine wp_seq (wp_asg (by repeat' first | walk_at "ev2" | (show (0 : Int) < _; decide) | exact mulR (by decide) | exact mulR (by omega) | fail) ?_)
        have m0 : 0 ≤ (cell * 48271 + (x : Int) * 69621 + 11) % 2147483647 := Int.emod_nonneg _ (by decide)
        have m1 : (cell * 48271 + (x : Int) * 69621 + 11) % 2147483647 < 2147483647 := Int.emod_lt_of_pos _ (by decide)
        refine wp_seq (wp_asg (by repeat' first | walk_at "ev2" | (show (0 : Int) < _; decide) | exact mulL (by decide) | exact mulL (by omega) | fail) ?_)
        refine wp_app (d := .int (mixM cell x % sizes[x])) rfl (by repeat' first | walk_at "ev2" | exact at1 | exact s0 | exact divX (k := 10) (by decide) (by unfold Lt; decide) | fail) (by rw [List.length_map]; exact small1000 (by omega)) ?_
        refine ⟨ps ++ [mixM cell x % sizes[x]], left, .val (.int x), .val (.int ((((cell * 48271 + (x : Int) * 69621 + 11) % 2147483647) * ((cell * 48271 + (x : Int) * 69621 + 11) % 2147483647) + 16807 * (x : Int) + 5) % 998244353)), ?_, hk2, by rw [List.length_append, hp]; rfl, ?_⟩
        · rw [List.map_append]; rfl
        · rw [← inv, partsM, if_neg h, if_neg h, List.append_assoc]; rfl
    · rintro δ ⟨ps, left, z, w, rfl, hk, hp, inv⟩
      rw [List.length_range] at hp inv
      rw [List.drop_length, partsM, List.append_nil] at inv
      refine wp_retOwn rfl ?_
      show _ = _
      rw [inv]
def R_isInt (ds : List D) (d : D) : Prop := ∃ i : Int, ds = [.int i] ∧ d = .bool true

theorem partsM_len (cell : Int) : ∀ (ss : List Int) (k : Nat) (left : Int), (partsM cell ss k left).length = ss.length
  | [], _, _ => rfl
  | s :: ss, k, left => by rw [partsM, List.length_cons, List.length_cons, partsM_len cell ss]
theorem partsM_get (cell : Int) : ∀ (ss : List Int) (k : Nat) (left : Int) (i : Nat) (s : Int), ss[i]? = some s → 0 < s → 0 ≤ (partsM cell ss k left).getD i 0 ∧ (partsM cell ss k left).getD i 0 < s
  | [], _, _, i, s, h, _ => by cases h
  | t :: ss, k, left, 0, s, h, hs => by
    have h : t = s := Option.some.inj h
    subst h
    rw [partsM, List.getD_cons_zero]
    split
    · exact ⟨Int.emod_nonneg _ (by omega), Int.emod_lt_of_pos _ hs⟩
    · exact ⟨Int.emod_nonneg _ (by omega), Int.emod_lt_of_pos _ hs⟩
  | t :: ss, k, left, i + 1, s, h, hs => by
    rw [partsM, List.getD_cons_succ]
    exact partsM_get cell ss _ _ i s h hs
theorem parts_len (cell : Int) (ss : List Int) : (partsOf cell ss).length = ss.length := partsM_len _ _ _ _
theorem parts_get {cell : Int} {ss : List Int} (i : Nat) {s : Int} (h : ss[i]? = some s) (hs : 0 < s) : 0 ≤ (partsOf cell ss).getD i 0 ∧ (partsOf cell ss).getD i 0 < s := partsM_get _ _ _ _ i s h hs
theorem sizes_ok {ss : List Int} (h : ∀ s ∈ ss, 0 < s ∧ s < 2 ^ 200) : ∀ s ∈ ss, 0 < s ∧ Lt 8000 s := fun s hs => by
  obtain ⟨a, b⟩ := h s hs
  refine ⟨a, Lt.mono (a := 200) ?_⟩
  have : (2 : Int) ^ 200 = ((2 ^ 200 : Nat) : Int) := by decide
  unfold Lt
  omega

theorem getD_of {α : Type} {xs : List α} {k : Nat} {x d : α} (h : xs[k]? = some x) : xs.getD k d = x := by
  rw [List.getD_eq_getElem?_getD, h]; rfl
def listI' (x : List Int) : D := .list (x.map PyData.int)
theorem at_int {x : List Int} {c : Nat} (h : c < x.length) : itemD (.list (x.map PyData.int)) (c : Int) = some (.int (x.getD c 0)) := by
  show atI (x.map PyData.int) (c : Int) = _
  rw [getD_of (List.getElem?_eq_getElem h)]
  exact atI_map (List.getElem?_eq_getElem h)
theorem at_tup {α : Type} {x : List α} {g : α → D} {c : Nat} {d : α} (h : c < x.length) : itemD (.tuple (x.map g)) (c : Int) = some (g (x.getD c d)) := by
  show atI (x.map g) (c : Int) = _
  rw [getD_of (List.getElem?_eq_getElem h)]
  exact atI_map (List.getElem?_eq_getElem h)
theorem at_lst {α : Type} {x : List α} {g : α → D} {c : Nat} {d : α} (h : c < x.length) : itemD (.list (x.map g)) (c : Int) = some (g (x.getD c d)) := at_tup h
/-! ### frames as data -/
structure Mem where
  i : Nat
  j : Nat
  pull : Option Int
  push : Option Int
instance : Inhabited Mem := ⟨⟨0, 0, none, none⟩⟩
def limV : Option Int → D
  | none => .none
  | some n => .int n
def memV (m : Mem) : D := .tuple [.int (m.i : Nat), .int (m.j : Nat), limV m.pull, limV m.push]
def frameV (ps : List (Int × Int)) (ms : List Mem) (pins : List Int) : D := .tuple [.tuple (ps.map numV), .tuple (ms.map memV), .tuple (pins.map PyData.int)]
def limOk (b : Int) : Option Int → Prop
  | none => True
  | some n => 0 ≤ n ∧ n ≤ b
/-- coordinates up to c, limits up to b -/
structure FrOk (c b : Int) (ps : List (Int × Int)) (ms : List Mem) (pins : List Int) : Prop where
  pc : ∀ p ∈ ps, -c ≤ p.1 ∧ p.1 ≤ c ∧ -c ≤ p.2 ∧ p.2 ≤ c
  mi : ∀ m ∈ ms, m.i < m.j ∧ m.j < ps.length ∧ limOk b m.pull ∧ limOk b m.push ∧ ps.getD m.i (0, 0) ≠ ps.getD m.j (0, 0)
  nd : (ms.map fun m => (m.i, m.j)).Nodup
  pn : ∀ p ∈ pins, 0 ≤ p ∧ p < ps.length
  ps : pins.Pairwise (· < ·)
/-! ### drawn frames -/
def Pre_points (ds : List D) : Prop := ∃ (sc : List Int) (n s : Nat), ds = [.list (sc.map PyData.int), .int (n : Nat), .int (s : Nat)] ∧ n ≤ 100 ∧ 1 ≤ s ∧ s ≤ 1000
def Post_points (ds : List D) (d : D) : Prop := ∀ (sc : List Int) (n s : Nat), ds = [.list (sc.map PyData.int), .int (n : Nat), .int (s : Nat)] → ∃ ps : List (Int × Int), d = .tuple (ps.map numV) ∧ ps.length = n ∧ ∀ p ∈ ps, -1 ≤ p.1 ∧ p.1 < s ∧ -1 ≤ p.2 ∧ p.2 < s
theorem natI {a b : Nat} (h : PyData.int (a : Nat) = .int (b : Nat)) : a = b := by injection h with h; omega
theorem parts2 {cell : Int} {s : Nat} (h1 : 1 ≤ s) : ∀ i, i < 2 → 0 ≤ (partsOf cell [(s : Int), s]).getD i 0 ∧ (partsOf cell [(s : Int), s]).getD i 0 < s := fun i hi => by
  rcases (show i = 0 ∨ i = 1 by omega) with rfl | rfl <;> exact parts_get _ rfl (by omega)
theorem ok_u_law_points (T : Txt K mg) : FnOk P w K mg base CX0 2 T.f_u_law_points T.fd_u_law_points ["script", "n", "size"] (spP K Pre_points Post_points) := by
  refine ok_wpP T.F_u_law_points sc_u_law_points ?_ (fun cdv A outer s H E hr => ⟨_, (pss_cons (ps_set (i := 3) sc_u_law_points.nd rfl (by first | exact Or.inl rfl | exact Or.inr rfl) (pe_lst pa_nil))
      (pss_cons (ps_for PassesOwn.never rfl (pi_range1 (by rfl) T.z_range (pa_cons (pv 1) pa_nil)) (pg_name (i := 4) sc_u_law_points.nd rfl (by first | exact Or.inl rfl | exact Or.inr rfl))
      (pss_cons (ps_set (i := 5) sc_u_law_points.nd rfl (by first | exact Or.inl rfl | exact Or.inr rfl) (pe_call (ok_u_law_parts T) (hr.mono (by decide)) (by rfl) T.g_u_law_parts T.F_u_law_parts.kp T.b_u_law_parts .nil pass0 (pa_cons (pe_op op_add (pe_call (ok_u_law_cell T) (hr.mono (by decide)) (by rfl) T.g_u_law_cell T.F_u_law_cell.kp T.b_u_law_cell .nil pass0 (pa_cons (pv 0) (pa_cons (pe_op op_add pe_int (pv 4)) pa_nil))) (pe_op op_mulX pe_int (pv 4))) (pa_cons (pe_lst (pa_cons (pv 2) (pa_cons (pv 2) pa_nil))) pa_nil))))
      (pss_one (ps_expr (pe_bm PySem.F.plainAttrs_list PySem.F.slot_list_append PySem.F.type_list_append mt_append (pv 3) (pa_cons (pe_tup (pa_cons (pe_op op_sub (pe_ix (kx_ix (K := K)) (pv 5) pe_int (fun _ _ => rfl)) pe_int) (pa_cons (pe_op op_sub (pe_ix (kx_ix (K := K)) (pv 5) pe_int (fun _ _ => rfl)) pe_int) pa_nil))) pa_nil))))))
      (pss_one (ps_ret (pe_callTy (kx_tuple (K := K)) (by rfl) T.z_tuple (by decide +kernel) (pa_cons (pv 3) pa_nil)))))), ?_⟩)
  all_goals (try simp only [nox_K, blk_K, cx_K])
  · rintro ds ⟨sc, n, s, rfl, _⟩; rfl
  · rintro ds ⟨sc, n, s, rfl, hn, h1, h2⟩
    refine wp_seq (wp_asgN (by walk_at "ev") ?_)
    refine wp_seq (wp_forG (xs := List.range n) (g := fun k => PyData.int (k : Nat))
      (fun k δ => ∃ (ps : List (Int × Int)) (a b : SV), δ = [.val (.list (sc.map PyData.int)), .val (.int (n : Nat)), .val (.int (s : Nat)), .own (.l (ps.map numV)), a, b] ∧ ps.length = k ∧ ∀ p ∈ ps, -1 ≤ p.1 ∧ p.1 < s ∧ -1 ≤ p.2 ∧ p.2 < s)
      (by repeat' first | walk_at "ev2" | (show (_ : Nat) ≤ _; omega) | fail) ⟨[], _, _, rfl, rfl, fun p hp => by cases hp⟩ ?_ ?_)
    · rintro k x δ ex ⟨ps, a, b, rfl, hl, hp⟩
      have hk : k < n := by
        have := (List.getElem?_eq_some_iff.mp ex).1
        rwa [List.length_range] at this
      have : x = k := by
        rw [List.getElem?_range hk] at ex
        exact (Option.some.inj ex).symm
      subst this
      have c1 : R_cell [.list (sc.map PyData.int), .int (3 + x : Nat)] (.int (sc.getD (3 + x) 0)) := ⟨sc, 3 + x, rfl, rfl⟩
      have e1 : ((3 : Int) + (x : Nat)) = ((3 + x : Nat) : Int) := by omega
      have p1 : R_parts [.int (sc.getD (3 + x) 0 + 17 * x), .list [.int (s : Nat), .int (s : Nat)]] (.list ((partsOf (sc.getD (3 + x) 0 + 17 * x) [(s : Int), s]).map PyData.int)) :=
        ⟨_, [(s : Int), s], rfl, sizes_ok (by intro z hz; simp at hz; subst hz; exact ⟨by omega, by omega⟩), by show 2 ≤ 1000; decide, rfl⟩
      have l1 : (partsOf (sc.getD (3 + x) 0 + 17 * x) [(s : Int), s]).length = 2 := parts_len _ _
      have g := parts2 (cell := sc.getD (3 + x) 0 + 17 * x) h1
      generalize partsOf (sc.getD (3 + x) 0 + 17 * x) [(s : Int), s] = Q at *
      have q0 : itemD (.list (Q.map PyData.int)) 0 = some (.int (Q.getD 0 0)) := at_int (c := 0) (by omega)
      have q1 : itemD (.list (Q.map PyData.int)) 1 = some (.int (Q.getD 1 0)) := at_int (c := 1) (by omega)
      refine wp_seq (wp_asg (d := .list (Q.map PyData.int)) (by repeat' first | walk_at "ev2" | exact e1 ▸ c1 | exact p1 | exact mulL (by decide) | fail) ?_)
      refine wp_app (d := numV (Q.getD 0 0 - 1, Q.getD 1 0 - 1)) rfl (ED.of (d := .tuple [.int (Q.getD 0 0 - 1), .int (Q.getD 1 0 - 1)]) (by repeat' first | walk_at "ev2" | exact q0 | exact q1 | fail) rfl) (by rw [List.length_map]; exact small1000 (by omega)) ?_
      refine ⟨ps ++ [(Q.getD 0 0 - 1, Q.getD 1 0 - 1)], _, _, by rw [List.map_append]; rfl, by rw [List.length_append, hl]; rfl, fun p hp2 => ?_⟩
      rcases List.mem_append.mp hp2 with z | z
      · exact hp p z
      · rw [List.mem_singleton.mp z]
        have g0 := g 0 (by decide)
        have g1 := g 1 (by decide)
        exact ⟨by show _ ≤ _ - (1 : Int); omega, by show _ - (1 : Int) < _; omega, by show _ ≤ _ - (1 : Int); omega, by show _ - (1 : Int) < _; omega⟩
    · rintro δ ⟨ps, a, b, rfl, hl, hp⟩
      rw [List.length_range] at hl
      refine wp_freeze 3 rfl (wp_retP (P := fun d => d = .tuple (ps.map numV)) (ED.ep (ed_tupleOf (ed_var rfl) rfl)) ?_)
      rintro d rfl sc' n' s' e
      injection e with _ e; injection e with e1 e; injection e with e2 _
      have := natI e1
      have := natI e2
      subst_vars
      exact ⟨ps, rfl, rfl, hp⟩

theorem ei_rngIJ {K : PySem.W.Frag} {δ : List SV} {ta tb : TE} {a b : Int} {m n : Nat} (h : ED K ta δ (.int a)) (h' : ED K tb δ (.int b)) (ea : a = (m : Nat)) (eb : b = (n : Nat)) (hm : m ≤ 1000) (hn : n ≤ 1000) : EI K (iRng2 (tCons ta (tCons tb tNil))) δ ((List.range (n - m)).map fun k => PyData.int ((m + k : Nat) : Int)) := by
  subst ea; subst eb
  refine EI.of (ei_rng2 h h' ⟨by omega, by omega, by omega, by omega⟩) ?_
  unfold rngD
  have : ((n : Int) - (m : Int)).toNat = n - m := by omega
  rw [this]
  congr 1
theorem eqv_num {p q : Int × Int} : PyData.eqv (numV p) (numV q) = decide (p = q) := by
  obtain ⟨a, b⟩ := p
  obtain ⟨c, d⟩ := q
  by_cases h1 : a = c
  · by_cases h2 : b = d
    · subst h1; subst h2
      rw [eqv_self (n := 1) shp_num]; simp
    · have : PyData.eqv (numV (a, b)) (numV (c, d)) = false := by
        show (PyData.eqv (.int a) (.int c) && (PyData.eqv (.int b) (.int d) && true)) = false
        have : PyData.eqv (.int b) (.int d) = false := by show (b == d) = false; simpa using h2
        rw [this]; simp
      rw [this]
      simp [h2]
  · have : PyData.eqv (numV (a, b)) (numV (c, d)) = false := by
      show (PyData.eqv (.int a) (.int c) && (PyData.eqv (.int b) (.int d) && true)) = false
      have : PyData.eqv (.int a) (.int c) = false := by show (a == c) = false; simpa using h1
      rw [this]; simp
    rw [this]
    simp [h1]

def VsI (vs : List (Int × Int)) : Prop := ∀ v ∈ vs, Lt 4000 v.1 ∧ Lt 4000 v.2
theorem lt_small {k : Nat} {n b : Int} (h1 : -b ≤ n) (h2 : n ≤ b) (hb : b < 2 ^ 30) (hk : 30 ≤ k := by decide) : Lt k n := by
  unfold Lt
  have : (2 : Nat) ^ 30 ≤ 2 ^ k := Nat.pow_le_pow_right (by decide) hk
  have : ((2 : Int) ^ 30) = ((2 ^ 30 : Nat) : Int) := by decide
  omega
theorem mem_getD {α : Type} {xs : List α} {k : Nat} {d : α} (h : k < xs.length) : xs.getD k d ∈ xs := by
  rw [getD_of (List.getElem?_eq_getElem h)]
  exact List.getElem_mem h

/-! ### rigid motions -/
structure Q4 where
  x : Int
  y : Int
  v : Int
  w : Int
def q4V (q : Q4) : D := .tuple [.int q.x, .int q.y, .int q.v, .int q.w]
def apM (ps vs : List (Int × Int)) (k : Nat) : Q4 := ⟨(ps.getD k (0, 0)).1 - (ps.getD 0 (0, 0)).1, (ps.getD k (0, 0)).2 - (ps.getD 0 (0, 0)).2, (vs.getD k (0, 0)).1 - (vs.getD 0 (0, 0)).1, (vs.getD k (0, 0)).2 - (vs.getD 0 (0, 0)).2⟩
def waysM (ps vs : List (Int × Int)) : List Q4 := (List.range ps.length).map (apM ps vs)
def RigQ (qs : List Q4) : Prop := ∃ s t : Int, s ≠ 0 ∧ ∀ q ∈ qs, q.v * s = -t * q.y ∧ q.w * s = t * q.x
theorem sq_pos {x y : Int} (h : ¬ (x = 0 ∧ y = 0)) : x * x + y * y ≠ 0 := by
  have h1 : 0 ≤ x * x := by
    by_cases hx : 0 ≤ x
    · exact Int.mul_nonneg hx hx
    · exact Int.mul_nonneg_of_nonpos_of_nonpos (by omega) (by omega)
  have h2 : 0 ≤ y * y := by
    by_cases hx : 0 ≤ y
    · exact Int.mul_nonneg hx hx
    · exact Int.mul_nonneg_of_nonpos_of_nonpos (by omega) (by omega)
  intro z
  have a1 : x * x = 0 := by omega
  have a2 : y * y = 0 := by omega
  exact h ⟨by rcases Int.mul_eq_zero.mp a1 with e | e <;> exact e, by rcases Int.mul_eq_zero.mp a2 with e | e <;> exact e⟩
/-- what the last joint apart from the first one says -/
def Last (qs : List Q4) (size turned : Int) : Prop := ((∀ q ∈ qs, q.x = 0 ∧ q.y = 0) ∧ size = 1 ∧ turned = 0) ∨ ∃ q ∈ qs, ¬ (q.x = 0 ∧ q.y = 0) ∧ size = q.x * q.x + q.y * q.y ∧ turned = q.x * q.w - q.y * q.v
theorem Last.ne {qs : List Q4} {s t : Int} (h : Last qs s t) : s ≠ 0 := by
  rcases h with ⟨_, rfl, _⟩ | ⟨q, _, h, rfl, _⟩
  · decide
  · exact sq_pos h
theorem cancelI {a b s : Int} (hs : s ≠ 0) (h : a * s = b * s) : a = b := Int.eq_of_mul_eq_mul_right hs h
theorem Last.rig {qs : List Q4} {s t : Int} (h : Last qs s t) : (qs.all fun q => (q.v * s == -t * q.y) && (q.w * s == t * q.x)) = true ↔ RigQ qs := by
  constructor
  · intro a
    refine ⟨s, t, h.ne, fun q hq => ?_⟩
    have := List.all_eq_true.mp a q hq
    rw [Bool.and_eq_true, beq_iff_eq, beq_iff_eq] at this
    exact this
  · rintro ⟨S, T, hS, hq⟩
    refine List.all_eq_true.mpr fun q hm => ?_
    rw [Bool.and_eq_true, beq_iff_eq, beq_iff_eq]
    obtain ⟨e1, e2⟩ := hq q hm
    rcases h with ⟨h0, rfl, rfl⟩ | ⟨r, hr, hne, rfl, rfl⟩
    · obtain ⟨x0, y0⟩ := h0 q hm
      rw [y0] at e1
      rw [x0] at e2
      rw [x0, y0]
      have a1 : q.v * S = 0 * S := by rw [e1]; simp
      have a2 : q.w * S = 0 * S := by rw [e2]; simp
      rw [cancelI hS a1, cancelI hS a2]
      simp
    · obtain ⟨f1, f2⟩ := hq r hr
      have k1 : (r.x * r.w - r.y * r.v) * S = T * (r.x * r.x + r.y * r.y) := by grind
      constructor
      · apply cancelI hS
        grind
      · apply cancelI hS
        grind
theorem Last.step {qs : List Q4} {k : Nat} {q : Q4} {s t : Int} (e : qs[k]? = some q) (h : Last (qs.take k) s t) : Last (qs.take (k + 1)) (if q.x = 0 ∧ q.y = 0 then s else q.x * q.x + q.y * q.y) (if q.x = 0 ∧ q.y = 0 then t else q.x * q.w - q.y * q.v) := by
  rw [List.take_add_one, e]
  by_cases hz : q.x = 0 ∧ q.y = 0
  · rw [if_pos hz, if_pos hz]
    rcases h with ⟨h0, h1, h2⟩ | ⟨r, hr, h1⟩
    · refine .inl ⟨fun r hr => ?_, h1, h2⟩
      rcases List.mem_append.mp hr with z | z
      · exact h0 r z
      · rw [List.mem_singleton.mp z]; exact hz
    · exact .inr ⟨r, List.mem_append_left _ hr, h1⟩
  · rw [if_neg hz, if_neg hz]
    exact .inr ⟨q, List.mem_append_right _ (List.mem_singleton.mpr rfl), hz, rfl, rfl⟩
structure RgA where
  ps : List (Int × Int)
  vs : List (Int × Int)
structure RgA.Ok (g : RgA) : Prop where
  pc : ∀ p ∈ g.ps, Lt 40 p.1 ∧ Lt 40 p.2
  vc : VsI g.vs
  vl : g.vs.length = g.ps.length
  pl : 0 < g.ps.length
  ph : g.ps.length ≤ 1000
theorem RgA.Ok.q {g : RgA} (h : g.Ok) {k : Nat} (hk : k < g.ps.length) : Lt 41 (apM g.ps g.vs k).x ∧ Lt 41 (apM g.ps g.vs k).y ∧ Lt 4001 (apM g.ps g.vs k).v ∧ Lt 4001 (apM g.ps g.vs k).w := by
  obtain ⟨a1, a2⟩ := h.pc _ (mem_getD (d := (0, 0)) hk)
  obtain ⟨b1, b2⟩ := h.pc _ (mem_getD (d := (0, 0)) h.pl)
  have hl := h.vl
  have hp := h.pl
  obtain ⟨c1, c2⟩ := h.vc _ (mem_getD (xs := g.vs) (d := (0, 0)) (k := k) (by omega))
  obtain ⟨d1, d2⟩ := h.vc _ (mem_getD (xs := g.vs) (d := (0, 0)) (k := 0) (by omega))
  exact ⟨a1.sub b1, a2.sub b2, c1.sub d1, c2.sub d2⟩
def R_apart (ds : List D) (d : D) : Prop := ∃ (g : RgA) (k : Nat), ds = [.tuple (g.ps.map numV), .tuple (g.vs.map numV), .int (k : Nat)] ∧ g.Ok ∧ k < g.ps.length ∧ d = q4V (apM g.ps g.vs k)
theorem ok_apart (T : Txt K mg) : FnOk P w K mg base CX0 1 T.f_apart T.fd_apart ["points", "motion", "k"] (spD K R_apart) := by
  refine ok_wp T.F_apart sc_apart ?_ (fun cdv A outer s H E hr => ⟨_, (pss_cons (ps_asg (pe_ix (kx_ix (K := K)) (pv 0) pe_int (fun _ _ => rfl)) (kpg_tup (K := K) (n := 2) rfl (pgs_cons (pg_name (i := 3) sc_apart.nd rfl (by first | exact Or.inl rfl | exact Or.inr rfl)) (pgs_cons (pg_name (i := 4) sc_apart.nd rfl (by first | exact Or.inl rfl | exact Or.inr rfl)) pgs_nil))))
      (pss_cons (ps_asg (pe_ix (kx_ix (K := K)) (pv 1) pe_int (fun _ _ => rfl)) (kpg_tup (K := K) (n := 2) rfl (pgs_cons (pg_name (i := 5) sc_apart.nd rfl (by first | exact Or.inl rfl | exact Or.inr rfl)) (pgs_cons (pg_name (i := 6) sc_apart.nd rfl (by first | exact Or.inl rfl | exact Or.inr rfl)) pgs_nil))))
      (pss_one (ps_ret (pe_tup (pa_cons (pe_op op_sub (pe_ix (kx_ix (K := K)) (pe_ix (kx_ix (K := K)) (pv 0) (pv 2) (fun _ _ => rfl)) pe_int (fun _ _ => rfl)) (pv 3)) (pa_cons (pe_op op_sub (pe_ix (kx_ix (K := K)) (pe_ix (kx_ix (K := K)) (pv 0) (pv 2) (fun _ _ => rfl)) pe_int (fun _ _ => rfl)) (pv 4)) (pa_cons (pe_op op_sub (pe_ix (kx_ix (K := K)) (pe_ix (kx_ix (K := K)) (pv 1) (pv 2) (fun _ _ => rfl)) pe_int (fun _ _ => rfl)) (pv 5)) (pa_cons (pe_op op_sub (pe_ix (kx_ix (K := K)) (pe_ix (kx_ix (K := K)) (pv 1) (pv 2) (fun _ _ => rfl)) pe_int (fun _ _ => rfl)) (pv 6)) pa_nil))))))))), ?_⟩)
  all_goals (try simp only [nox_K, blk_K, cx_K])
  · rintro ds d ⟨g, k, rfl, _⟩; rfl
  · rintro ds d ⟨⟨ps, vs⟩, k, rfl, ok, hk, rfl⟩
    have vl : vs.length = ps.length := ok.vl
    have pl : 0 < ps.length := ok.pl
    simp only at hk
    have p0 : itemD (.tuple (ps.map numV)) 0 = some (numV (ps.getD 0 (0, 0))) := at_tup (c := 0) pl
    have pk : itemD (.tuple (ps.map numV)) (k : Nat) = some (numV (ps.getD k (0, 0))) := at_tup hk
    have v0 : itemD (.tuple (vs.map numV)) 0 = some (numV (vs.getD 0 (0, 0))) := at_tup (c := 0) (by omega)
    have vk : itemD (.tuple (vs.map numV)) (k : Nat) = some (numV (vs.getD k (0, 0))) := at_tup (by omega)
    unfold apM
    simp only
    generalize ps.getD 0 (0, 0) = P0 at *
    generalize ps.getD k (0, 0) = Pk at *
    generalize vs.getD 0 (0, 0) = V0 at *
    generalize vs.getD k (0, 0) = Vk at *
    refine wp_seq (wp_asgG (d := numV P0) (by repeat' first | walk_at "ev2" | exact p0 | fail) (gd_tup (ds := [.int P0.1, .int P0.2]) (gds_cons gd_name (gds_cons gd_name gds_nil)) rfl) ?_)
    refine wp_seq (wp_asgG (d := numV V0) (by repeat' first | walk_at "ev2" | exact v0 | fail) (gd_tup (ds := [.int V0.1, .int V0.2]) (gds_cons gd_name (gds_cons gd_name gds_nil)) rfl) ?_)
    exact wp_ret (d := .tuple [.int (Pk.1 - P0.1), .int (Pk.2 - P0.2), .int (Vk.1 - V0.1), .int (Vk.2 - V0.2)]) (by repeat' first | walk_at "ev2" | exact pk | exact vk | fail) rfl
def R_rigid (ds : List D) (d : D) : Prop := ∃ (g : RgA) (b : Bool), ds = [.tuple (g.ps.map numV), .tuple (g.vs.map numV)] ∧ g.Ok ∧ (b = true ↔ RigQ (waysM g.ps g.vs)) ∧ d = .bool b
theorem dec_zero {x y : Int} : (!PyData.eqv (.tuple [.int x, .int y]) (.tuple [.int 0, .int 0])) = !decide (x = 0 ∧ y = 0) := by
  have : PyData.eqv (numV (x, y)) (numV (0, 0)) = decide ((x, y) = (0, 0)) := eqv_num
  show (!PyData.eqv (numV (x, y)) (numV (0, 0))) = _
  rw [this]
  congr 1
  by_cases h : x = 0 ∧ y = 0
  · rw [decide_eq_true h, h.1, h.2]; rfl
  · rw [decide_eq_false h, decide_eq_false fun z => h (by injection z with a b; exact ⟨a, b⟩)]
theorem ok_is_rigid (T : Txt K mg) : FnOk P w K mg base CX0 2 T.f_is_rigid T.fd_is_rigid ["points", "motion"] (spD K R_rigid) := by
  refine ok_wp T.F_is_rigid sc_is_rigid ?_ (fun cdv A outer s H E hr => ⟨_, (pss_cons (ps_set (i := 2) sc_is_rigid.nd rfl (by first | exact Or.inl rfl | exact Or.inr rfl) pe_int)
      (pss_cons (ps_set (i := 3) sc_is_rigid.nd rfl (by first | exact Or.inl rfl | exact Or.inr rfl) pe_int)
      (pss_cons (ps_setLc (i := 4) (own := [("k", 9)]) (by rfl) sc_is_rigid.nd rfl rfl (sw_true rfl rfl rfl rfl) (pi_range1 (by rfl) T.z_range (pa_cons (pe_callB (kx_len (K := K)) (by rfl) T.z_len (by decide +kernel) (pa_cons (pv 0) pa_nil)) pa_nil)) (by refine blkOk_by ?_; rfl) (fun _ _ _ _ _ => pg_name (i := 9) sc_is_rigid.nd rfl (by first | exact Or.inl rfl | exact Or.inr rfl)) (fun _ _ _ _ _ => pts_nil) (fun _ _ _ _ _ => (pe_call (ok_apart T) (hr.mono (by decide)) (by rfl) T.g_apart T.F_apart.kp T.b_apart .nil pass0 (pa_cons (pv 0) (pa_cons (pv 1) (pa_cons (pv 9) pa_nil))))))
      (pss_cons (ps_for PassesOwn.never rfl (kpi_seq (K := K) (pv 4)) (kpg_tup (K := K) (n := 4) rfl (pgs_cons (pg_name (i := 5) sc_is_rigid.nd rfl (by first | exact Or.inl rfl | exact Or.inr rfl)) (pgs_cons (pg_name (i := 6) sc_is_rigid.nd rfl (by first | exact Or.inl rfl | exact Or.inr rfl)) (pgs_cons (pg_name (i := 7) sc_is_rigid.nd rfl (by first | exact Or.inl rfl | exact Or.inr rfl)) (pgs_cons (pg_name (i := 8) sc_is_rigid.nd rfl (by first | exact Or.inl rfl | exact Or.inr rfl)) pgs_nil)))))
      (pss_one (ps_if (pt_cmpR (kx_ne (K := K) hr.units) (pe_tup (pa_cons (pv 5) (pa_cons (pv 6) pa_nil))) (pe_tup (pa_cons pe_int (pa_cons pe_int pa_nil))) (nomark _)) (pss_cons (ps_set (i := 2) sc_is_rigid.nd rfl (by first | exact Or.inl rfl | exact Or.inr rfl) (pe_op op_add (pe_op op_mulX (pv 5) (pv 5)) (pe_op op_mulX (pv 6) (pv 6))))
      (pss_one (ps_set (i := 3) sc_is_rigid.nd rfl (by first | exact Or.inl rfl | exact Or.inr rfl) (pe_op op_sub (pe_op op_mulX (pv 5) (pv 8)) (pe_op op_mulX (pv 6) (pv 7)))))) pss_nil)))
      (pss_one (ps_ret (pe_callB (kx_all (K := K)) (by rfl) T.z_all (by decide +kernel) (pa_cons (pe_lc (own := [("x", 5), ("y", 6), ("v", 7), ("w", 8)]) (by rfl) sc_is_rigid.nd (kpi_seq (K := K) (pv 4)) (by refine blkOk_by ?_; rfl) (fun _ _ _ _ _ => kpg_tup (K := K) (n := 4) rfl (pgs_cons (pg_name (i := 5) sc_is_rigid.nd rfl (by first | exact Or.inl rfl | exact Or.inr rfl)) (pgs_cons (pg_name (i := 6) sc_is_rigid.nd rfl (by first | exact Or.inl rfl | exact Or.inr rfl)) (pgs_cons (pg_name (i := 7) sc_is_rigid.nd rfl (by first | exact Or.inl rfl | exact Or.inr rfl)) (pgs_cons (pg_name (i := 8) sc_is_rigid.nd rfl (by first | exact Or.inl rfl | exact Or.inr rfl)) pgs_nil))))) (fun _ _ _ _ _ => pts_nil) (fun _ _ _ _ _ => (pe_and (pe_cmpR (kx_eq (K := K) hr.units) (pe_op op_mulX (pv 7) (pv 2)) (pe_op op_mulX (pe_un un_neg (pv 3)) (pv 6)) (nomark _)) (pe_one (pe_cmpR (kx_eq (K := K) hr.units) (pe_op op_mulX (pv 8) (pv 2)) (pe_op op_mulX (pv 3) (pv 5)) (nomark _)))))) pa_nil)))))))), ?_⟩)
  all_goals (try simp only [nox_K, blk_K, cx_K])
  · rintro ds d ⟨g, b, rfl, _⟩; rfl
  · rintro ds d ⟨g, b, rfl, ok, hb, rfl⟩
    have pl := ok.pl
    have ph := ok.ph
    have vl := ok.vl
    refine wp_seq (wp_asg (d := .int 1) (by walk_at "ev") ?_)
    refine wp_seq (wp_asg (d := .int 0) (by walk_at "ev") ?_)
    refine wp_seq (wp_asg (d := .list ((waysM g.ps g.vs).map q4V)) (ED.of (EN.ed (en_lcA (xs := List.range g.ps.length) (gd := fun k => PyData.int (k : Nat)) (f := fun k => q4V (apM g.ps g.vs k)) (ei_rngN (i := ((g.ps.map numV).length : Nat)) (by repeat' first | walk_at "ev2" | fail) (by rw [List.length_map]) (by omega)) (sz_small (by rw [List.length_range]; omega)) (fun p hp => gw_name (by decide)) fun k hk => ?_)) (by unfold waysM; rw [List.map_map]; rfl)) ?_)
    · have hk := List.mem_range.mp hk
      have ap : R_apart [.tuple (g.ps.map numV), .tuple (g.vs.map numV), .int (k : Nat)] (q4V (apM g.ps g.vs k)) := ⟨g, k, rfl, ok, hk, rfl⟩
      repeat' first | walk_at "ev2" | exact ap | fail
    have wl : (waysM g.ps g.vs).length = g.ps.length := by unfold waysM; rw [List.length_map, List.length_range]
    have wz : ∀ q ∈ waysM g.ps g.vs, Lt 41 q.x ∧ Lt 41 q.y ∧ Lt 4001 q.v ∧ Lt 4001 q.w := fun q hq => by
      obtain ⟨k, hk, rfl⟩ := List.mem_map.mp hq
      exact ok.q (List.mem_range.mp hk)
    generalize waysM g.ps g.vs = qs at *
    have lz : ∀ k s t, Last (qs.take k) s t → Lt 100 s ∧ Lt 4100 t := fun k s t h => by
      rcases h with ⟨_, rfl, rfl⟩ | ⟨q, hq, _, rfl, rfl⟩
      · exact ⟨by unfold Lt; decide, Nat.pow_pos (by decide)⟩
      · obtain ⟨a1, a2, a3, a4⟩ := wz q (List.mem_of_mem_take hq)
        exact ⟨((a1.mul a1).add (a2.mul a2)).mono, ((a1.mul a4).sub (a2.mul a3)).mono⟩
    refine wp_seq (wp_for (ds := qs.map q4V) (fun k δ => ∃ (s t : Int) (a b c e f : SV), δ = [.val (.tuple (g.ps.map numV)), .val (.tuple (g.vs.map numV)), .val (.int s), .val (.int t), .val (.list (qs.map q4V)), a, b, c, e, f] ∧ Last (qs.take k) s t)
      (by repeat' first | walk_at "ev2" | fail) ⟨1, 0, _, _, _, _, _, rfl, .inl ⟨fun q hq => (by rw [List.take_zero] at hq; cases hq), rfl, rfl⟩⟩ ?_ ?_)
    · rintro k d δ ed ⟨s, t, a, b, c, e, f, rfl, la⟩
      rw [List.getElem?_map] at ed
      cases eq : qs[k]? with
      | none => rw [eq] at ed; cases ed
      | some q =>
        rw [eq] at ed
        have ed : q4V q = d := Option.some.inj ed
        subst ed
        obtain ⟨a1, a2, a3, a4⟩ := wz q (List.mem_of_getElem? eq)
        have st := la.step eq
        refine ⟨_, gd_tup (ds := [.int q.x, .int q.y, .int q.v, .int q.w]) (gds_cons gd_name (gds_cons gd_name (gds_cons gd_name (gds_cons gd_name gds_nil)))) rfl, ?_⟩
        refine wp_if (b := !decide (q.x = 0 ∧ q.y = 0)) (ET.of (by repeat' first | walk_at "ev2" | exact Shp.shaped (n := 1) (shp_tup fun d hd => by simp at hd; rcases hd with rfl | rfl <;> exact shp_int) | fail) dec_zero) (fun h => ?_) (fun h => ?_)
        · have h : ¬ (q.x = 0 ∧ q.y = 0) := fun z => by
            rw [decide_eq_true z] at h
            cases h
          rw [if_neg h, if_neg h] at st
          refine wp_seq (wp_asg (d := .int (q.x * q.x + q.y * q.y)) (by repeat' first | walk_at "ev2" | exact mulX a1 a1 | exact mulX a2 a2 | fail) ?_)
          refine wp_asg (d := .int (q.x * q.w - q.y * q.v)) (by repeat' first | walk_at "ev2" | exact mulX a1 a4 | exact mulX a2 a3 | fail) ⟨_, _, _, _, _, _, _, rfl, st⟩
        · have h : q.x = 0 ∧ q.y = 0 := by simpa using h
          rw [if_pos h, if_pos h] at st
          exact wp_next ⟨_, _, _, _, _, _, _, rfl, st⟩
    · rintro δ ⟨s, t, a, b', c, e, f, rfl, la⟩
      obtain ⟨l1, l2⟩ := lz _ _ _ la
      rw [List.length_map, List.take_length] at la
      refine wp_ret (d := .bool ((qs.map fun q => (q.v * s == -t * q.y) && (q.w * s == t * q.x)).all id)) (ed_all (bs := qs.map fun q => (q.v * s == -t * q.y) && (q.w * s == t * q.x)) (ED.of (EN.ed (en_lcA (xs := qs) (gd := q4V) (f := fun q => PyData.bool ((q.v * s == -t * q.y) && (q.w * s == t * q.x))) (ei_seq (ed_var rfl) rfl) (sz_small (by omega)) (fun q hq => gw_tup (ds := [.int q.x, .int q.y, .int q.v, .int q.w]) (gws_cons (gw_name (by decide)) (gws_cons (gw_name (by decide)) (gws_cons (gw_name (by decide)) (gws_cons (gw_name (by decide)) gws_nil)))) rfl) fun q hq => ?_)) (by rw [List.map_map]; rfl))) ?_
      · obtain ⟨a1, a2, a3, a4⟩ := wz q hq
        refine ED.of (d := .bool (PyData.eqv (.int (q.v * s)) (.int (-t * q.y)) && PyData.eqv (.int (q.w * s)) (.int (t * q.x)))) (by repeat' first | walk_at "ev2" | exact mulX a3 l1 | exact mulX a4 l1 | exact mulX l2.neg a2 | exact mulX l2 a1 | fail) rfl
      · show PyData.bool _ = .bool b
        congr 1
        rw [Bool.eq_iff_iff, hb, ← la.rig, List.all_map]
        rfl

/-! ### the law's own test -/
def dij (ps : List (Int × Int)) (i j : Nat) : Int × Int := ((ps.getD i (0, 0)).1 - (ps.getD j (0, 0)).1, (ps.getD i (0, 0)).2 - (ps.getD j (0, 0)).2)
def okP (d w : Int × Int) : Prop := d.1 * w.1 + d.2 * w.2 = 0 ∧ (d = (0, 0) → w = (0, 0))
def prP (d w : Int × Int) : Int × Int := (d.1 * w.2 - d.2 * w.1, d.1 * d.1 + d.2 * d.2)
theorem ap_mem {ps vs : List (Int × Int)} {k : Nat} (h : k < ps.length) : apM ps vs k ∈ waysM ps vs := List.mem_map.mpr ⟨k, List.mem_range.mpr h, rfl⟩
theorem rig_pair {ps vs : List (Int × Int)} {s t : Int} (h : ∀ q ∈ waysM ps vs, q.v * s = -t * q.y ∧ q.w * s = t * q.x) {i j : Nat} (hi : i < ps.length) (hj : j < ps.length) :
    (dij vs i j).1 * s = -t * (dij ps i j).2 ∧ (dij vs i j).2 * s = t * (dij ps i j).1 := by
  obtain ⟨a1, a2⟩ := h _ (ap_mem hi)
  obtain ⟨b1, b2⟩ := h _ (ap_mem hj)
  simp only [apM] at a1 a2 b1 b2
  simp only [dij]
  generalize (ps.getD i (0, 0)).1 = x1 at *
  generalize (ps.getD i (0, 0)).2 = y1 at *
  generalize (ps.getD j (0, 0)).1 = x2 at *
  generalize (ps.getD j (0, 0)).2 = y2 at *
  generalize (vs.getD i (0, 0)).1 = v1 at *
  generalize (vs.getD i (0, 0)).2 = w1 at *
  generalize (vs.getD j (0, 0)).1 = v2 at *
  generalize (vs.getD j (0, 0)).2 = w2 at *
  constructor <;> grind
theorem rig_ok {d w : Int × Int} {s t : Int} (hs : s ≠ 0) (h : w.1 * s = -t * d.2 ∧ w.2 * s = t * d.1) : okP d w := by
  obtain ⟨h1, h2⟩ := h
  obtain ⟨x, y⟩ := d
  obtain ⟨v, u⟩ := w
  simp only at h1 h2
  refine ⟨?_, fun e => ?_⟩
  · show x * v + y * u = 0
    apply cancelI hs
    grind
  · injection e with e1 e2
    subst e1; subst e2
    have a1 : v * s = 0 * s := by rw [h1]; simp
    have a2 : u * s = 0 * s := by rw [h2]; simp
    rw [cancelI hs a1, cancelI hs a2]
theorem rig_pr {d w e u : Int × Int} {s t : Int} (hs : s ≠ 0) (h : w.1 * s = -t * d.2 ∧ w.2 * s = t * d.1) (h' : u.1 * s = -t * e.2 ∧ u.2 * s = t * e.1) : (prP d w).1 * (prP e u).2 = (prP e u).1 * (prP d w).2 := by
  obtain ⟨h1, h2⟩ := h
  obtain ⟨k1, k2⟩ := h'
  obtain ⟨x, y⟩ := d
  obtain ⟨v, m⟩ := w
  obtain ⟨x', y'⟩ := e
  obtain ⟨v', m'⟩ := u
  simp only at h1 h2 k1 k2
  show (x * m - y * v) * (x' * x' + y' * y') = (x' * m' - y' * v') * (x * x + y * y)
  have a1 : (x * m - y * v) * s = t * (x * x + y * y) := by grind
  have a2 : (x' * m' - y' * v') * s = t * (x' * x' + y' * y') := by grind
  apply cancelI hs
  grind
theorem rig_back {ps vs : List (Int × Int)} (ok : ∀ i j, i < ps.length → j < i → okP (dij ps i j) (dij vs i j)) (pr : ∀ i j k l, i < ps.length → j < i → k < ps.length → l < k → (prP (dij ps i j) (dij vs i j)).1 * (prP (dij ps k l) (dij vs k l)).2 = (prP (dij ps k l) (dij vs k l)).1 * (prP (dij ps i j) (dij vs i j)).2) : RigQ (waysM ps vs) := by
  by_cases hz : ∀ k, k < ps.length → dij ps k 0 = (0, 0)
  · refine ⟨1, 0, by decide, fun q hq => ?_⟩
    obtain ⟨k, hk, rfl⟩ := List.mem_map.mp hq
    have hk := List.mem_range.mp hk
    have hv : dij vs k 0 = (0, 0) := by
      by_cases k0 : k = 0
      · subst k0; simp [dij]
      · exact (ok k 0 hk (by omega)).2 (hz k hk)
    have e1 : (apM ps vs k).v = 0 := congrArg Prod.fst hv
    have e2 : (apM ps vs k).w = 0 := congrArg Prod.snd hv
    rw [e1, e2]; simp
  · obtain ⟨l, hl⟩ := Classical.not_forall.mp hz
    obtain ⟨hl, hd⟩ := Classical.not_imp.mp hl
    have l0 : 0 < l := Nat.pos_of_ne_zero fun z => hd (by subst z; simp [dij])
    have hsz : (prP (dij ps l 0) (dij vs l 0)).2 ≠ 0 := sq_pos fun z => hd (by
      obtain ⟨a, b⟩ := z
      exact Prod.ext a b)
    refine ⟨(prP (dij ps l 0) (dij vs l 0)).2, (prP (dij ps l 0) (dij vs l 0)).1, hsz, fun q hq => ?_⟩
    obtain ⟨k, hk, rfl⟩ := List.mem_map.mp hq
    have hk := List.mem_range.mp hk
    show (dij vs k 0).1 * _ = -_ * (dij ps k 0).2 ∧ (dij vs k 0).2 * _ = _ * (dij ps k 0).1
    by_cases k0 : k = 0
    · subst k0
      simp [dij]
    · have o := ok k 0 hk (by omega)
      have e := pr k 0 l 0 hk (by omega) hl l0
      generalize (prP (dij ps l 0) (dij vs l 0)).2 = S at *
      generalize (prP (dij ps l 0) (dij vs l 0)).1 = T at *
      generalize dij ps k 0 = d at *
      generalize dij vs k 0 = w at *
      obtain ⟨x, y⟩ := d
      obtain ⟨v, m⟩ := w
      obtain ⟨o1, o2⟩ := o
      have e : (x * m - y * v) * S = T * (x * x + y * y) := e
      have o1 : x * v + y * m = 0 := o1
      show v * S = -T * y ∧ m * S = T * x
      by_cases hzz : x = 0 ∧ y = 0
      · obtain ⟨rfl, rfl⟩ := hzz
        have o2 := o2 rfl
        injection o2 with o3 o4
        subst o3; subst o4
        simp
      · have hn := sq_pos hzz
        constructor
        · apply cancelI hn
          grind
        · apply cancelI hn
          grind
def R_lrigid (ds : List D) (d : D) : Prop := ∃ (g : RgA) (y : D) (b : Bool), ds = [.tuple (g.ps.map numV), y] ∧ (∀ k, k < g.ps.length → itemD y (k : Nat) = some (numV (g.vs.getD k (0, 0)))) ∧ g.Ok ∧ (b = true ↔ RigQ (waysM g.ps g.vs)) ∧ d = .bool b
theorem rng_x {n k x : Nat} (e : (List.range n)[k]? = some x) : k < n ∧ x = k := by
  have hk : k < n := by
    have := (List.getElem?_eq_some_iff.mp e).1
    rwa [List.length_range] at this
  rw [List.getElem?_range hk] at e
  exact ⟨hk, (Option.some.inj e).symm⟩
theorem dec_num {p : Int × Int} : PyData.eqv (numV p) (.tuple [.int 0, .int 0]) = decide (p = (0, 0)) := eqv_num (q := (0, 0))
theorem ok_u_law_rigid (T : Txt K mg) : FnOk P w K mg base CX0 1 T.f_u_law_rigid T.fd_u_law_rigid ["points", "motion"] (spD K R_lrigid) := by
  refine ok_wp T.F_u_law_rigid sc_u_law_rigid ?_ (fun cdv A outer s H E hr => ⟨_, (pss_cons (ps_set (i := 2) sc_u_law_rigid.nd rfl (by first | exact Or.inl rfl | exact Or.inr rfl) (pe_lst pa_nil))
      (pss_cons (ps_for PassesOwn.never rfl (pi_range1 (by rfl) T.z_range (pa_cons (pe_callB (kx_len (K := K)) (by rfl) T.z_len (by decide +kernel) (pa_cons (pv 0) pa_nil)) pa_nil)) (pg_name (i := 3) sc_u_law_rigid.nd rfl (by first | exact Or.inl rfl | exact Or.inr rfl))
      (pss_one (ps_for PassesOwn.never rfl (pi_range1 (by rfl) T.z_range (pa_cons (pv 3) pa_nil)) (pg_name (i := 4) sc_u_law_rigid.nd rfl (by first | exact Or.inl rfl | exact Or.inr rfl))
      (pss_cons (ps_set (i := 5) sc_u_law_rigid.nd rfl (by first | exact Or.inl rfl | exact Or.inr rfl) (pe_tup (pa_cons (pe_op op_sub (pe_ix (kx_ix (K := K)) (pe_ix (kx_ix (K := K)) (pv 0) (pv 3) (fun _ _ => rfl)) pe_int (fun _ _ => rfl)) (pe_ix (kx_ix (K := K)) (pe_ix (kx_ix (K := K)) (pv 0) (pv 4) (fun _ _ => rfl)) pe_int (fun _ _ => rfl))) (pa_cons (pe_op op_sub (pe_ix (kx_ix (K := K)) (pe_ix (kx_ix (K := K)) (pv 0) (pv 3) (fun _ _ => rfl)) pe_int (fun _ _ => rfl)) (pe_ix (kx_ix (K := K)) (pe_ix (kx_ix (K := K)) (pv 0) (pv 4) (fun _ _ => rfl)) pe_int (fun _ _ => rfl))) pa_nil))))
      (pss_cons (ps_set (i := 6) sc_u_law_rigid.nd rfl (by first | exact Or.inl rfl | exact Or.inr rfl) (pe_tup (pa_cons (pe_op op_sub (pe_ix (kx_ix (K := K)) (pe_ix (kx_ix (K := K)) (pv 1) (pv 3) (fun _ _ => rfl)) pe_int (fun _ _ => rfl)) (pe_ix (kx_ix (K := K)) (pe_ix (kx_ix (K := K)) (pv 1) (pv 4) (fun _ _ => rfl)) pe_int (fun _ _ => rfl))) (pa_cons (pe_op op_sub (pe_ix (kx_ix (K := K)) (pe_ix (kx_ix (K := K)) (pv 1) (pv 3) (fun _ _ => rfl)) pe_int (fun _ _ => rfl)) (pe_ix (kx_ix (K := K)) (pe_ix (kx_ix (K := K)) (pv 1) (pv 4) (fun _ _ => rfl)) pe_int (fun _ _ => rfl))) pa_nil))))
      (pss_cons (ps_if (PW.pt (pw_or (pt_cmpR (kx_ne (K := K) hr.units) (pe_op op_add (pe_op op_mulX (pe_ix (kx_ix (K := K)) (pv 5) pe_int (fun _ _ => rfl)) (pe_ix (kx_ix (K := K)) (pv 6) pe_int (fun _ _ => rfl))) (pe_op op_mulX (pe_ix (kx_ix (K := K)) (pv 5) pe_int (fun _ _ => rfl)) (pe_ix (kx_ix (K := K)) (pv 6) pe_int (fun _ _ => rfl)))) pe_int (nomark _)) (pw_or1 (PW.pt (pw_and (pt_cmpR (kx_eq (K := K) hr.units) (pv 5) (pe_tup (pa_cons pe_int (pa_cons pe_int pa_nil))) (nomark _)) (pw_and1 (pt_cmpR (kx_ne (K := K) hr.units) (pv 6) (pe_tup (pa_cons pe_int (pa_cons pe_int pa_nil))) (nomark _)))))))) (pss_one (ps_ret pe_bl)) pss_nil)
      (pss_one (ps_expr (pe_bm PySem.F.plainAttrs_list PySem.F.slot_list_append PySem.F.type_list_append mt_append (pv 2) (pa_cons (pe_tup (pa_cons (pe_op op_sub (pe_op op_mulX (pe_ix (kx_ix (K := K)) (pv 5) pe_int (fun _ _ => rfl)) (pe_ix (kx_ix (K := K)) (pv 6) pe_int (fun _ _ => rfl))) (pe_op op_mulX (pe_ix (kx_ix (K := K)) (pv 5) pe_int (fun _ _ => rfl)) (pe_ix (kx_ix (K := K)) (pv 6) pe_int (fun _ _ => rfl)))) (pa_cons (pe_op op_add (pe_op op_mulX (pe_ix (kx_ix (K := K)) (pv 5) pe_int (fun _ _ => rfl)) (pe_ix (kx_ix (K := K)) (pv 5) pe_int (fun _ _ => rfl))) (pe_op op_mulX (pe_ix (kx_ix (K := K)) (pv 5) pe_int (fun _ _ => rfl)) (pe_ix (kx_ix (K := K)) (pv 5) pe_int (fun _ _ => rfl)))) pa_nil))) pa_nil))))))))))
      (pss_cons (ps_for PassesOwn.never rfl (kpi_seq (K := K) (pv 2)) (kpg_tup (K := K) (n := 2) rfl (pgs_cons (pg_name (i := 7) sc_u_law_rigid.nd rfl (by first | exact Or.inl rfl | exact Or.inr rfl)) (pgs_cons (pg_name (i := 8) sc_u_law_rigid.nd rfl (by first | exact Or.inl rfl | exact Or.inr rfl)) pgs_nil)))
      (pss_one (ps_for PassesOwn.never rfl (kpi_seq (K := K) (pv 2)) (kpg_tup (K := K) (n := 2) rfl (pgs_cons (pg_name (i := 9) sc_u_law_rigid.nd rfl (by first | exact Or.inl rfl | exact Or.inr rfl)) (pgs_cons (pg_name (i := 10) sc_u_law_rigid.nd rfl (by first | exact Or.inl rfl | exact Or.inr rfl)) pgs_nil)))
      (pss_one (ps_if (pt_cmpR (kx_ne (K := K) hr.units) (pe_op op_mulX (pv 7) (pv 10)) (pe_op op_mulX (pv 9) (pv 8)) (nomark _)) (pss_one (ps_ret pe_bl)) pss_nil)))))
      (pss_one (ps_ret pe_bl))))), ?_⟩)
  all_goals (try simp only [nox_K, blk_K, cx_K])
  · rintro ds d ⟨g, y, b, rfl, _⟩; rfl
  · rintro ds d ⟨g, y, b, rfl, hy, ok, hb, rfl⟩
    have pl := ok.pl
    have ph := ok.ph
    have vl := ok.vl
    refine wp_seq (wp_asgN (by walk_at "ev") ?_)
    refine wp_seq (wp_cut (fun δ => ∃ (L : List (Int × Int)) (a b c e f g1 g2 g3 : SV), δ = [.val (.tuple (g.ps.map numV)), .val y, .own (.l (L.map numV)), a, b, c, e, f, g1, g2, g3] ∧ (∀ e ∈ L, ∃ i j, i < g.ps.length ∧ j < i ∧ e = prP (dij g.ps i j) (dij g.vs i j)) ∧ (∀ i j, i < g.ps.length → j < i → prP (dij g.ps i j) (dij g.vs i j) ∈ L) ∧ (∀ i j, i < g.ps.length → j < i → okP (dij g.ps i j) (dij g.vs i j)) ∧ L.length ≤ g.ps.length * g.ps.length)
      (wp_forG (xs := List.range g.ps.length) (g := fun k => PyData.int (k : Nat)) (fun n δ => ∃ (L : List (Int × Int)) (a b c e f g1 g2 g3 : SV), δ = [.val (.tuple (g.ps.map numV)), .val y, .own (.l (L.map numV)), a, b, c, e, f, g1, g2, g3] ∧ (∀ e ∈ L, ∃ i j, i < g.ps.length ∧ j < i ∧ e = prP (dij g.ps i j) (dij g.vs i j)) ∧ (∀ i j, i < n → j < i → prP (dij g.ps i j) (dij g.vs i j) ∈ L) ∧ (∀ i j, i < n → j < i → okP (dij g.ps i j) (dij g.vs i j)) ∧ L.length ≤ n * g.ps.length)
        (ei_rngN (i := ((g.ps.map numV).length : Nat)) (by repeat' first | walk_at "ev2" | fail) (by rw [List.length_map]) (by omega)) ⟨[], _, _, _, _, _, _, _, _, rfl, fun e he => (by cases he), fun i j h => (by omega), fun i j h => (by omega), Nat.zero_le _⟩ ?_ ?_) ?_)
    · rintro n x δ ex ⟨L, a, b1, c, e, f, g1, g2, g3, rfl, hL, hin, hok, hlen⟩
      obtain ⟨hn, rfl⟩ := rng_x ex
      refine wp_forG (xs := List.range x) (g := fun k => PyData.int (k : Nat)) (fun n δ => ∃ (L : List (Int × Int)) (b c e f g1 g2 g3 : SV), δ = [.val (.tuple (g.ps.map numV)), .val y, .own (.l (L.map numV)), .val (.int (x : Nat)), b, c, e, f, g1, g2, g3] ∧ (∀ e ∈ L, ∃ i j, i < g.ps.length ∧ j < i ∧ e = prP (dij g.ps i j) (dij g.vs i j)) ∧ (∀ i j, (i < x ∨ (i = x ∧ j < n)) → j < i → prP (dij g.ps i j) (dij g.vs i j) ∈ L) ∧ (∀ i j, (i < x ∨ (i = x ∧ j < n)) → j < i → okP (dij g.ps i j) (dij g.vs i j)) ∧ L.length ≤ x * g.ps.length + n)
        (ei_rngN (ed_var rfl) rfl (by omega)) ⟨L, _, _, _, _, _, _, _, rfl, hL, fun i j h => hin i j (by omega), fun i j h => hok i j (by omega), hlen⟩ ?_ ?_
      · rintro m z δ ez ⟨L, b1, c, e, f, g1, g2, g3, rfl, hL, hin, hok, hlen⟩
        obtain ⟨hz, rfl⟩ := rng_x ez
        have pi : itemD (.tuple (g.ps.map numV)) (x : Nat) = some (numV (g.ps.getD x (0, 0))) := at_tup hn
        have pj : itemD (.tuple (g.ps.map numV)) (z : Nat) = some (numV (g.ps.getD z (0, 0))) := at_tup (by omega)
        have vi := hy x hn
        have vj := hy z (by omega)
        have bd : Lt 41 (dij g.ps x z).1 ∧ Lt 41 (dij g.ps x z).2 := by
          obtain ⟨a1, a2⟩ := ok.pc _ (mem_getD (d := (0, 0)) hn)
          obtain ⟨b1, b2⟩ := ok.pc _ (mem_getD (d := (0, 0)) (show z < g.ps.length by omega))
          exact ⟨a1.sub b1, a2.sub b2⟩
        have bw : Lt 4001 (dij g.vs x z).1 ∧ Lt 4001 (dij g.vs x z).2 := by
          obtain ⟨a1, a2⟩ := ok.vc _ (mem_getD (xs := g.vs) (d := (0, 0)) (k := x) (by omega))
          obtain ⟨b1, b2⟩ := ok.vc _ (mem_getD (xs := g.vs) (d := (0, 0)) (k := z) (by omega))
          exact ⟨a1.sub b1, a2.sub b2⟩
        have okR : RigQ (waysM g.ps g.vs) → okP (dij g.ps x z) (dij g.vs x z) := fun ⟨s, t, hs, h⟩ => rig_ok hs (rig_pair h hn (by omega))
        have prr : prP (dij g.ps x z) (dij g.vs x z) = prP (dij g.ps x z) (dij g.vs x z) := rfl
        have mem2 : ∃ i j, i < g.ps.length ∧ j < i ∧ prP (dij g.ps x z) (dij g.vs x z) = prP (dij g.ps i j) (dij g.vs i j) := ⟨x, z, hn, hz, rfl⟩
        refine wp_seq (wp_asg (d := numV (dij g.ps x z)) (ED.of (d := .tuple [.int ((g.ps.getD x (0, 0)).1 - (g.ps.getD z (0, 0)).1), .int ((g.ps.getD x (0, 0)).2 - (g.ps.getD z (0, 0)).2)]) (by repeat' first | walk_at "ev2" | exact pi | exact pj | fail) rfl) ?_)
        refine wp_seq (wp_asg (d := numV (dij g.vs x z)) (ED.of (d := .tuple [.int ((g.vs.getD x (0, 0)).1 - (g.vs.getD z (0, 0)).1), .int ((g.vs.getD x (0, 0)).2 - (g.vs.getD z (0, 0)).2)]) (by repeat' first | walk_at "ev2" | exact vi | exact vj | fail) rfl) ?_)
        generalize hd : dij g.ps x z = dd at *
        generalize hw : dij g.vs x z = ww at *
        refine wp_seq (wp_if (b := (!PyData.eqv (.int (dd.1 * ww.1 + dd.2 * ww.2)) (.int 0)) || (decide (dd = (0, 0)) && !decide (ww = (0, 0)))) (ET.of (by repeat' first | walk_at "ev2" | exact mulX bd.1 bw.1 | exact mulX bd.2 bw.2 | exact Shp.shaped (n := 1) shp_num | exact Shp.shaped (n := 1) (shp_tup fun d hd => by simp at hd; subst hd; exact shp_int) | fail) (by rw [dec_num, dec_num])) (fun h => ?_) (fun h => wp_next ?_))
        · refine wp_ret ed_bl ?_
          show PyData.bool false = .bool b
          congr 1
          symm
          refine Bool.eq_false_iff.mpr fun zb => ?_
          obtain ⟨o1, o2⟩ := okR (hb.mp zb)
          rw [o1] at h
          by_cases hz0 : dd = (0, 0)
          · rw [o2 hz0] at h; simp [PyData.eqv] at h
          · rw [decide_eq_false hz0] at h; simp [PyData.eqv] at h
        · have okn : okP dd ww := by
            rw [Bool.or_eq_false_iff] at h
            obtain ⟨h1, h2⟩ := h
            refine ⟨?_, fun hz0 => ?_⟩
            · have h1 : (!((dd.1 * ww.1 + dd.2 * ww.2) == 0)) = false := h1
              simpa using h1
            · rw [decide_eq_true hz0] at h2
              simpa using h2
          refine wp_app (d := numV (prP dd ww)) rfl (ED.of (d := .tuple [.int (dd.1 * ww.2 - dd.2 * ww.1), .int (dd.1 * dd.1 + dd.2 * dd.2)]) (by repeat' first | walk_at "ev2" | exact mulX bd.1 bw.2 | exact mulX bd.2 bw.1 | exact mulX bd.1 bd.1 | exact mulX bd.2 bd.2 | fail) rfl) (by
            rw [List.length_map]
            have h1 : x * g.ps.length ≤ 1000 * 1000 := Nat.mul_le_mul (by omega) ph
            have : sizeLine = 2 ^ 24 ∨ 2000000 < sizeLine := by right; decide
            rcases this with h | h <;> omega) ?_
          refine ⟨L ++ [prP dd ww], _, _, _, _, _, _, _, by rw [List.map_append]; rfl, fun e he => ?_, fun i j h hji => ?_, fun i j h hji => ?_, by rw [List.length_append]; show _ + 1 ≤ _; omega⟩
          · rcases List.mem_append.mp he with q | q
            · exact hL e q
            · rw [List.mem_singleton.mp q]; exact mem2
          · by_cases hij : i = x ∧ j = z
            · obtain ⟨rfl, rfl⟩ := hij
              rw [hd, hw]
              exact List.mem_append_right _ (List.mem_singleton.mpr rfl)
            · exact List.mem_append_left _ (hin i j (by omega) hji)
          · by_cases hij : i = x ∧ j = z
            · obtain ⟨rfl, rfl⟩ := hij
              rw [hd, hw]; exact okn
            · exact hok i j (by omega) hji
      · rintro δ ⟨L, b1, c, e, f, g1, g2, g3, rfl, hL, hin, hok, hlen⟩
        rw [List.length_range] at hin hok hlen
        exact ⟨L, _, _, _, _, _, _, _, _, rfl, hL, fun i j h hji => hin i j (by omega) hji, fun i j h hji => hok i j (by omega) hji, by rw [Nat.add_mul]; omega⟩
    · rintro δ ⟨L, a, b1, c, e, f, g1, g2, g3, rfl, hL, hin, hok, hlen⟩
      rw [List.length_range] at hin hok hlen
      exact ⟨L, _, _, _, _, _, _, _, _, rfl, hL, hin, hok, hlen⟩
    · rintro δ ⟨L, a, b1, c, e, f, g1, g2, g3, rfl, hL, hin, hok, hlen⟩
      refine wp_freeze 2 rfl ?_
      have bL : ∀ e ∈ L, Lt 4100 e.1 ∧ Lt 100 e.2 := fun e he => by
        obtain ⟨i, j, hi, hj, rfl⟩ := hL e he
        obtain ⟨a1, a2⟩ := ok.pc _ (mem_getD (d := (0, 0)) hi)
        obtain ⟨b1, b2⟩ := ok.pc _ (mem_getD (d := (0, 0)) (show j < g.ps.length by omega))
        obtain ⟨c1, c2⟩ := ok.vc _ (mem_getD (xs := g.vs) (d := (0, 0)) (k := i) (by omega))
        obtain ⟨d1, d2⟩ := ok.vc _ (mem_getD (xs := g.vs) (d := (0, 0)) (k := j) (by omega))
        have x1 := a1.sub b1
        have x2 := a2.sub b2
        exact ⟨((x1.mul (c2.sub d2)).sub (x2.mul (c1.sub d1))).mono, ((x1.mul x1).add (x2.mul x2)).mono⟩
      refine wp_seq (wp_for (ds := L.map numV) (fun n δ => ∃ (a b c e f g1 g2 g3 : SV), δ = [.val (.tuple (g.ps.map numV)), .val y, .val (.list (L.map numV)), a, b, c, e, f, g1, g2, g3] ∧ ∀ e ∈ L.take n, ∀ o ∈ L, e.1 * o.2 = o.1 * e.2)
        (by repeat' first | walk_at "ev2" | fail) ⟨_, _, _, _, _, _, _, _, rfl, fun e he => (by rw [List.take_zero] at he; cases he)⟩ ?_ ?_)
      · rintro n d δ ed ⟨a, b1, c, e, f, g1, g2, g3, rfl, inv⟩
        rw [List.getElem?_map] at ed
        cases eq : L[n]? with
        | none => rw [eq] at ed; cases ed
        | some p =>
          rw [eq] at ed
          have ed : numV p = d := Option.some.inj ed
          subst ed
          refine ⟨_, gd_tup (ds := [.int p.1, .int p.2]) (gds_cons gd_name (gds_cons gd_name gds_nil)) rfl, ?_⟩
          refine wp_for (ds := L.map numV) (fun m δ => ∃ (a b c e g2 g3 : SV), δ = [.val (.tuple (g.ps.map numV)), .val y, .val (.list (L.map numV)), a, b, c, e, .val (.int p.1), .val (.int p.2), g2, g3] ∧ ∀ o ∈ L.take m, p.1 * o.2 = o.1 * p.2)
            (by repeat' first | walk_at "ev2" | fail) ⟨_, _, _, _, _, _, rfl, fun e he => (by rw [List.take_zero] at he; cases he)⟩ ?_ ?_
          · rintro m d δ ed ⟨a, b1, c, e, g2, g3, rfl, inv2⟩
            rw [List.getElem?_map] at ed
            cases eq2 : L[m]? with
            | none => rw [eq2] at ed; cases ed
            | some o =>
              rw [eq2] at ed
              have ed : numV o = d := Option.some.inj ed
              subst ed
              obtain ⟨l1, l2⟩ := bL p (List.mem_of_getElem? eq)
              obtain ⟨l3, l4⟩ := bL o (List.mem_of_getElem? eq2)
              refine ⟨_, gd_tup (ds := [.int o.1, .int o.2]) (gds_cons gd_name (gds_cons gd_name gds_nil)) rfl, ?_⟩
              refine wp_if (b := !(p.1 * o.2 == o.1 * p.2)) (by repeat' first | walk_at "ev2" | exact mulX l1 l4 | exact mulX l3 l2 | fail) (fun h => ?_) (fun h => ?_)
              · refine wp_ret ed_bl ?_
                show PyData.bool false = .bool b
                congr 1
                symm
                refine Bool.eq_false_iff.mpr fun zb => ?_
                obtain ⟨s, t, hs, hq⟩ := hb.mp zb
                obtain ⟨i, j, hi, hj, rfl⟩ := hL p (List.mem_of_getElem? eq)
                obtain ⟨i', j', hi', hj', rfl⟩ := hL o (List.mem_of_getElem? eq2)
                have := rig_pr hs (rig_pair hq (j := j) hi (by omega)) (rig_pair hq (j := j') hi' (by omega))
                rw [this] at h
                simp at h
              · refine wp_next ⟨_, _, _, _, _, _, rfl, fun o' ho' => ?_⟩
                rw [List.take_add_one, eq2] at ho'
                rcases List.mem_append.mp ho' with q | q
                · exact inv2 o' q
                · rw [List.mem_singleton.mp q]
                  simpa using h
          · rintro δ ⟨a, b1, c, e, g2, g3, rfl, inv2⟩
            rw [List.length_map, List.take_length] at inv2
            refine ⟨_, _, _, _, _, _, _, _, rfl, fun e' he' => ?_⟩
            rw [List.take_add_one, eq] at he'
            rcases List.mem_append.mp he' with q | q
            · exact inv e' q
            · rw [List.mem_singleton.mp q]; exact inv2
      · rintro δ ⟨a, b1, c, e, f, g1, g2, g3, rfl, inv⟩
        rw [List.length_map, List.take_length] at inv
        refine wp_ret ed_bl ?_
        show PyData.bool true = .bool b
        congr 1
        symm
        exact hb.mpr (rig_back hok fun i j k l hi hj hk hl => inv _ (hin i j hi hj) _ (hin k l hk hl))

def R_law (ds : List D) (d : D) : Prop := ∃ ns : List Int, ds = [.list (ns.map PyData.int)] ∧ ns.length ≤ 63 ∧ d = .bool true
theorem parts_rep {cell s : Int} {m i : Nat} (hs : 0 < s) (h : i < m) : 0 ≤ (partsOf cell (List.replicate m s)).getD i 0 ∧ (partsOf cell (List.replicate m s)).getD i 0 < s := parts_get i (by rw [List.getElem?_replicate, if_pos h]) hs
def szG : List Int := [5, 5, 3, 7, 7, 7, 5, 5, 4]
def Box (b : Int) (ps : List (Int × Int)) : Prop := ∀ p ∈ ps, -b ≤ p.1 ∧ p.1 ≤ b ∧ -b ≤ p.2 ∧ p.2 ≤ b
theorem box_get {b : Int} {ps : List (Int × Int)} (h : Box b ps) {k : Nat} (hk : k < ps.length) : -b ≤ (ps.getD k (0, 0)).1 ∧ (ps.getD k (0, 0)).1 ≤ b ∧ -b ≤ (ps.getD k (0, 0)).2 ∧ (ps.getD k (0, 0)).2 ≤ b := h _ (mem_getD hk)
theorem lt_small' {k : Nat} {n b : Int} (h1 : -b ≤ n) (h2 : n ≤ b) (hb : b < 2 ^ 30) (hk : 30 ≤ k := by decide) : Lt k n := by
  unfold Lt
  have : (2 : Nat) ^ 30 ≤ 2 ^ k := Nat.pow_le_pow_right (by decide) hk
  have : ((2 : Int) ^ 30) = ((2 ^ 30 : Nat) : Int) := by decide
  omega
theorem mul_box {a b x y : Int} (ha : -a ≤ x ∧ x ≤ a) (hb : -b ≤ y ∧ y ≤ b) (a0 : 0 ≤ a) (b0 : 0 ≤ b) : -(a * b) ≤ x * y ∧ x * y ≤ a * b := by
  have h : (x * y).natAbs ≤ (a * b).natAbs := by
    rw [Int.natAbs_mul, Int.natAbs_mul]
    exact Nat.mul_le_mul (by omega) (by omega)
  have := Int.mul_nonneg a0 b0
  omega
theorem ok_law (T : Txt K mg) : FnOk P w K mg base CX0 3 T.f_law T.fd_law ["script"] (spD K R_law) := by
  refine ok_wp T.F_law sc_law ?_ (fun cdv A outer s H E hr => ⟨_, (pss_cons (ps_set (i := 1) sc_law.nd rfl (by first | exact Or.inl rfl | exact Or.inr rfl) (pe_call (ok_u_law_parts T) (hr.mono (by decide)) (by rfl) T.g_u_law_parts T.F_u_law_parts.kp T.b_u_law_parts .nil pass0 (pa_cons (pe_call (ok_u_law_cell T) (hr.mono (by decide)) (by rfl) T.g_u_law_cell T.F_u_law_cell.kp T.b_u_law_cell .nil pass0 (pa_cons (pv 0) (pa_cons pe_int pa_nil))) (pa_cons (pe_lst (pa_cons pe_int (pa_cons pe_int (pa_cons pe_int (pa_cons pe_int (pa_cons pe_int (pa_cons pe_int (pa_cons pe_int (pa_cons pe_int (pa_cons pe_int pa_nil)))))))))) pa_nil))))
      (pss_cons (ps_set (i := 2) sc_law.nd rfl (by first | exact Or.inl rfl | exact Or.inr rfl) (pe_op op_add pe_int (pe_ix (kx_ix (K := K)) (pv 1) pe_int (fun _ _ => rfl))))
      (pss_cons (ps_set (i := 3) sc_law.nd rfl (by first | exact Or.inl rfl | exact Or.inr rfl) (pe_call (ok_u_law_points T) (hr.mono (by decide)) (by rfl) T.g_u_law_points T.F_u_law_points.kp T.b_u_law_points .nil pass0 (pa_cons (pv 0) (pa_cons (pv 2) (pa_cons pe_int pa_nil)))))
      (pss_cons (ps_if (pt_cmpR (kx_eq (K := K) hr.units) (pe_ix (kx_ix (K := K)) (pv 1) pe_int (fun _ _ => rfl)) pe_int (nomark _)) (pss_one (ps_set (i := 3) sc_law.nd rfl (by first | exact Or.inl rfl | exact Or.inr rfl) (pe_callTy (kx_tuple (K := K)) (by rfl) T.z_tuple (by decide +kernel) (pa_cons (pe_lc (own := [("p", 11)]) (by rfl) sc_law.nd (kpi_seq (K := K) (pv 3)) (by refine blkOk_by ?_; rfl) (fun _ _ _ _ _ => pg_name (i := 11) sc_law.nd rfl (by first | exact Or.inl rfl | exact Or.inr rfl)) (fun _ _ _ _ _ => pts_nil) (fun _ _ _ _ _ => (pe_ix (kx_ix (K := K)) (pv 3) pe_int (fun _ _ => rfl)))) pa_nil)))) pss_nil)
      (pss_cons (ps_if (pt_cmpR (kx_eq (K := K) hr.units) (pe_ix (kx_ix (K := K)) (pv 1) pe_int (fun _ _ => rfl)) pe_int (nomark _)) (pss_one (ps_set (i := 3) sc_law.nd rfl (by first | exact Or.inl rfl | exact Or.inr rfl) (pe_callTy (kx_tuple (K := K)) (by rfl) T.z_tuple (by decide +kernel) (pa_cons (pe_lc (own := [("p", 11)]) (by rfl) sc_law.nd (kpi_seq (K := K) (pv 3)) (by refine blkOk_by ?_; rfl) (fun _ _ _ _ _ => pg_name (i := 11) sc_law.nd rfl (by first | exact Or.inl rfl | exact Or.inr rfl)) (fun _ _ _ _ _ => pts_nil) (fun _ _ _ _ _ => (pe_tup (pa_cons (pe_op op_mulX pe_int (pe_ix (kx_ix (K := K)) (pv 11) pe_int (fun _ _ => rfl))) (pa_cons (pe_op op_sub pe_int (pe_ix (kx_ix (K := K)) (pv 11) pe_int (fun _ _ => rfl))) pa_nil))))) pa_nil)))) pss_nil)
      (pss_cons (ps_asg (pe_tup (pa_cons (pe_op op_sub (pe_ix (kx_ix (K := K)) (pv 1) pe_int (fun _ _ => rfl)) pe_int) (pa_cons (pe_op op_sub (pe_ix (kx_ix (K := K)) (pv 1) pe_int (fun _ _ => rfl)) pe_int) (pa_cons (pe_op op_sub (pe_ix (kx_ix (K := K)) (pv 1) pe_int (fun _ _ => rfl)) pe_int) pa_nil)))) (kpg_tup (K := K) (n := 3) rfl (pgs_cons (pg_name (i := 4) sc_law.nd rfl (by first | exact Or.inl rfl | exact Or.inr rfl)) (pgs_cons (pg_name (i := 5) sc_law.nd rfl (by first | exact Or.inl rfl | exact Or.inr rfl)) (pgs_cons (pg_name (i := 6) sc_law.nd rfl (by first | exact Or.inl rfl | exact Or.inr rfl)) pgs_nil)))))
      (pss_cons (ps_setLc (i := 7) (own := [("p", 11)]) (by rfl) sc_law.nd rfl rfl (sw_true rfl rfl rfl rfl) (kpi_seq (K := K) (pv 3)) (by refine blkOk_by ?_; rfl) (fun _ _ _ _ _ => pg_name (i := 11) sc_law.nd rfl (by first | exact Or.inl rfl | exact Or.inr rfl)) (fun _ _ _ _ _ => pts_nil) (fun _ _ _ _ _ => (pe_tup (pa_cons (pe_op op_sub (pv 4) (pe_op op_mulX (pv 6) (pe_ix (kx_ix (K := K)) (pv 11) pe_int (fun _ _ => rfl)))) (pa_cons (pe_op op_add (pv 5) (pe_op op_mulX (pv 6) (pe_ix (kx_ix (K := K)) (pv 11) pe_int (fun _ _ => rfl)))) pa_nil)))))
      (pss_cons (ps_if (pt_cmpR (kx_eq (K := K) hr.units) (pe_ix (kx_ix (K := K)) (pv 1) pe_int (fun _ _ => rfl)) pe_int (nomark _)) (pss_cons (ps_set (i := 8) sc_law.nd rfl (by first | exact Or.inl rfl | exact Or.inr rfl) (pe_call (ok_u_law_parts T) (hr.mono (by decide)) (by rfl) T.g_u_law_parts T.F_u_law_parts.kp T.b_u_law_parts .nil pass0 (pa_cons (pe_call (ok_u_law_cell T) (hr.mono (by decide)) (by rfl) T.g_u_law_cell T.F_u_law_cell.kp T.b_u_law_cell .nil pass0 (pa_cons (pv 0) (pa_cons pe_int pa_nil))) (pa_cons (pe_op op_rep (pe_lst (pa_cons pe_int pa_nil)) pe_int) pa_nil))))
      (pss_one (ps_setLc (i := 7) (own := [("k", 9)]) (by rfl) sc_law.nd rfl rfl (sw_true rfl rfl rfl rfl) (pi_range1 (by rfl) T.z_range (pa_cons (pv 2) pa_nil)) (by refine blkOk_by ?_; rfl) (fun _ _ _ _ _ => pg_name (i := 9) sc_law.nd rfl (by first | exact Or.inl rfl | exact Or.inr rfl)) (fun _ _ _ _ _ => pts_nil) (fun _ _ _ _ _ => (pe_tup (pa_cons (pe_op op_sub (pe_ix (kx_ix (K := K)) (pv 8) (pe_op op_mulX pe_int (pv 9)) (fun _ _ => rfl)) pe_int) (pa_cons (pe_op op_sub (pe_ix (kx_ix (K := K)) (pv 8) (pe_op op_add (pe_op op_mulX pe_int (pv 9)) pe_int) (fun _ _ => rfl)) pe_int) pa_nil))))))) pss_nil)
      (pss_cons (ps_if (pt_cmpR (kx_eq (K := K) hr.units) (pe_ix (kx_ix (K := K)) (pv 1) pe_int (fun _ _ => rfl)) pe_int (nomark _)) (pss_cons (ps_set (i := 9) sc_law.nd rfl (by first | exact Or.inl rfl | exact Or.inr rfl) (pe_op op_mod (pe_callTy cr_intQ (by rfl) T.z_int (by decide +kernel) (pa_cons (pe_ix (kx_ix (K := K)) (pv 1) pe_int (fun _ _ => rfl)) pa_nil)) (pv 2)))
      (pss_one (ps_asg (pe_tup (pa_cons (pe_op op_sub (pe_op op_add (pe_ix (kx_ix (K := K)) (pe_ix (kx_ix (K := K)) (pv 7) (pv 9) (fun _ _ => rfl)) pe_int (fun _ _ => rfl)) (pe_ix (kx_ix (K := K)) (pv 1) pe_int (fun _ _ => rfl))) pe_int) (pa_cons (pe_op op_sub (pe_op op_add (pe_ix (kx_ix (K := K)) (pe_ix (kx_ix (K := K)) (pv 7) (pv 9) (fun _ _ => rfl)) pe_int (fun _ _ => rfl)) (pe_ix (kx_ix (K := K)) (pv 1) pe_int (fun _ _ => rfl))) pe_int) pa_nil))) (pg_sub (pv 7) (pv 9) set_list)))) pss_nil)
      (pss_cons (ps_set (i := 10) sc_law.nd rfl (by first | exact Or.inl rfl | exact Or.inr rfl) (pe_call (ok_is_rigid T) (hr.mono (by decide)) (by rfl) T.g_is_rigid T.F_is_rigid.kp T.b_is_rigid .nil pass0 (pa_cons (pv 3) (pa_cons (pe_callTy (kx_tuple (K := K)) (by rfl) T.z_tuple (by decide +kernel) (pa_cons (pv 7) pa_nil)) pa_nil))))
      (pss_one (ps_ret (pe_and (pe_callB (kx_isi (K := K)) (by rfl) T.z_isinstance (by decide +kernel) (pa_cons (pv 10) (pa_cons (pe_bltn (v := .ty "bool") (by rfl) T.z_bool (by decide +kernel) rfl) pa_nil))) (pe_one (pe_cmpR (kx_eq (K := K) hr.units) (pv 10) (pe_call (ok_u_law_rigid T) (hr.mono (by decide)) (by rfl) T.g_u_law_rigid T.F_u_law_rigid.kp T.b_u_law_rigid .nil pass0 (pa_cons (pv 3) (pa_cons (pv 7) pa_nil))) (nomark _)))))))))))))))), ?_⟩)
  all_goals (try simp only [nox_K, blk_K, cx_K])
  · rintro ds d ⟨ns, rfl, _⟩; rfl
  · rintro ds d ⟨ns, rfl, hl, rfl⟩
    have c0 : R_cell [.list (ns.map PyData.int), .int 0] (.int (ns.getD 0 0)) := ⟨ns, 0, rfl, rfl⟩
    have p0 : R_parts [.int (ns.getD 0 0), .list (szG.map PyData.int)] (.list ((partsOf (ns.getD 0 0) szG).map PyData.int)) := ⟨_, szG, rfl, sizes_ok (by decide +kernel), by decide, rfl⟩
    have l0 : (partsOf (ns.getD 0 0) szG).length = 9 := parts_len _ _
    have b0 := parts_get (cell := ns.getD 0 0) (ss := szG) 0 (s := 5) rfl (by decide)
    have b3 := parts_get (cell := ns.getD 0 0) (ss := szG) 3 (s := 7) rfl (by decide)
    have b4 := parts_get (cell := ns.getD 0 0) (ss := szG) 4 (s := 7) rfl (by decide)
    have b5 := parts_get (cell := ns.getD 0 0) (ss := szG) 5 (s := 7) rfl (by decide)
    have b7 := parts_get (cell := ns.getD 0 0) (ss := szG) 7 (s := 5) rfl (by decide)
    have b8 := parts_get (cell := ns.getD 0 0) (ss := szG) 8 (s := 4) rfl (by decide)
    generalize partsOf (ns.getD 0 0) szG = Q at *
    have q : ∀ i : Nat, i < 9 → itemD (.list (Q.map PyData.int)) (i : Int) = some (.int (Q.getD i 0)) := fun i hi => at_int (by omega)
    have q0 := q 0 (by decide)
    have q1 := q 1 (by decide)
    have q2 := q 2 (by decide)
    have q3 := q 3 (by decide)
    have q4 := q 4 (by decide)
    have q5 := q 5 (by decide)
    have q6 := q 6 (by decide)
    have q7 := q 7 (by decide)
    have q8 := q 8 (by decide)
    refine wp_seq (wp_asg (d := .list (Q.map PyData.int)) (by repeat' first | walk_at "ev2" | exact c0 | exact p0 | fail) ?_)
    obtain ⟨n, hn⟩ : ∃ n : Nat, 2 + Q.getD 0 0 = n := ⟨(2 + Q.getD 0 0).toNat, by omega⟩
    refine wp_seq (wp_asg (d := .int (n : Nat)) (ED.of (d := .int (2 + Q.getD 0 0)) (by repeat' first | walk_at "ev2" | exact q0 | fail) (by rw [hn])) ?_)
    have n2 : 2 ≤ n := by omega
    have n6 : n ≤ 6 := by omega
    refine wp_seq (wp_asgP (ep_call (ds := [.list (ns.map PyData.int), .int (n : Nat), .int 5]) (by walk_at "ev") ⟨ns, n, 5, rfl, by omega, by decide, by decide⟩) fun d hd => ?_)
    obtain ⟨ps, rfl, pl, pb⟩ := hd ns n 5 rfl
    have pb : Box 10 ps := fun p hp => by
      obtain ⟨a1, a2, a3, a4⟩ := pb p hp
      exact ⟨by omega, by omega, by omega, by omega⟩
    have rl : (List.range n).length ≤ sizeLine := sz_small (by rw [List.length_range]; omega)
    have el : ∀ ps : List (Int × Int), ps.length = n → ps.length ≤ sizeLine := fun ps h => sz_small (by omega)
    -- all joints at one place, or on one line
    refine wp_seq (wp_cut (fun δ => ∃ (ps : List (Int × Int)) (a b c e f g h i : SV), δ = [.val (.list (ns.map PyData.int)), .val (.list (Q.map PyData.int)), .val (.int (n : Nat)), .val (.tuple (ps.map numV)), a, b, c, e, f, g, h, i] ∧ ps.length = n ∧ Box 10 ps) (wp_if (b := (Q.getD 1 0 == 0)) (by repeat' first | walk_at "ev2" | exact q1 | fail) (fun h => ?_) (fun h => ?_)) ?_)
    · have at0 : itemD (.tuple (ps.map numV)) 0 = some (numV (ps.getD 0 (0, 0))) := at_tup (c := 0) (by omega)
      refine wp_asg (d := .tuple ((ps.map fun _ => ps.getD 0 (0, 0)).map numV)) (ed_tupleOf (x := .list ((ps.map fun _ => ps.getD 0 (0, 0)).map numV)) (ED.of (EN.ed (en_lcA (xs := ps) (gd := numV) (f := fun _ => numV (ps.getD 0 (0, 0))) (ei_seq (ed_var rfl) rfl) (el ps pl) (fun p hp => gw_name (by decide)) fun k hk => by repeat' first | walk_at "ev2" | exact at0 | fail)) (by rw [List.map_map]; rfl)) rfl) ?_
      refine ⟨_, _, _, _, _, _, _, _, _, rfl, by rw [List.length_map]; exact pl, fun p hp => ?_⟩
      obtain ⟨_, _, rfl⟩ := List.mem_map.mp hp
      exact box_get pb (by omega)
    · exact wp_next ⟨ps, _, _, _, _, _, _, _, _, rfl, pl, pb⟩

    try clear pl pb ps
    rintro δ ⟨ps, a, b, c, e, f, g, h, i, rfl, pl, pb⟩
    refine wp_seq (wp_cut (fun δ => ∃ (ps : List (Int × Int)) (a b c e f g h i : SV), δ = [.val (.list (ns.map PyData.int)), .val (.list (Q.map PyData.int)), .val (.int (n : Nat)), .val (.tuple (ps.map numV)), a, b, c, e, f, g, h, i] ∧ ps.length = n ∧ Box 20 ps) (wp_if (b := (Q.getD 1 0 == 1)) (by repeat' first | walk_at "ev2" | exact q1 | fail) (fun h => ?_) (fun h => ?_)) ?_)
    · refine wp_asg (d := .tuple ((ps.map fun p => (2 * p.1, 1 - p.1)).map numV)) (ed_tupleOf (x := .list ((ps.map fun p => (2 * p.1, 1 - p.1)).map numV)) (ED.of (EN.ed (en_lcA (xs := ps) (gd := numV) (f := fun p => numV (2 * p.1, 1 - p.1)) (ei_seq (ed_var rfl) rfl) (el ps pl) (fun p hp => gw_name (by decide)) fun k hk => ED.of (d := .tuple [.int (2 * k.1), .int (1 - k.1)]) (by repeat' first | walk_at "ev2" | exact mulL (by decide) | fail) rfl)) (by rw [List.map_map]; rfl)) rfl) ?_
      refine ⟨_, _, _, _, _, _, _, _, _, rfl, by rw [List.length_map]; exact pl, fun p hp => ?_⟩
      obtain ⟨p, hp2, rfl⟩ := List.mem_map.mp hp
      obtain ⟨a1, a2, a3, a4⟩ := pb p hp2
      exact ⟨by show _ ≤ 2 * p.1; omega, by show 2 * p.1 ≤ _; omega, by show _ ≤ 1 - p.1; omega, by show 1 - p.1 ≤ _; omega⟩
    · exact wp_next ⟨ps, _, _, _, _, _, _, _, _, rfl, pl, fun p hp => by
        obtain ⟨a1, a2, a3, a4⟩ := pb p hp
        exact ⟨by omega, by omega, by omega, by omega⟩⟩
    try clear pl pb ps
    rintro δ ⟨ps, a, b, c, e, f, g, h, i, rfl, pl, pb⟩
    obtain ⟨A, hA⟩ : ∃ A : Int, A = Q.getD 3 0 - 3 := ⟨_, rfl⟩
    obtain ⟨Bv, hB⟩ : ∃ A : Int, A = Q.getD 4 0 - 3 := ⟨_, rfl⟩
    obtain ⟨Cv, hC⟩ : ∃ A : Int, A = Q.getD 5 0 - 3 := ⟨_, rfl⟩
    refine wp_seq (wp_asgG (d := .tuple [.int A, .int Bv, .int Cv]) (ED.of (d := .tuple [.int (Q.getD 3 0 - 3), .int (Q.getD 4 0 - 3), .int (Q.getD 5 0 - 3)]) (by repeat' first | walk_at "ev2" | exact q3 | exact q4 | exact q5 | fail) (by rw [hA, hB, hC])) (gd_tup (gds_cons gd_name (gds_cons gd_name (gds_cons gd_name gds_nil))) rfl) ?_)
    have lC : -(2 ^ 64) < Cv ∧ Cv < 2 ^ 64 := by omega
    refine wp_seq (wp_asgN (EN.of (en_lcA (xs := ps) (gd := numV) (f := fun p => numV (A - Cv * p.2, Bv + Cv * p.1)) (ei_seq (ed_var rfl) rfl) (el ps pl) (fun p hp => gw_name (by decide)) fun p hp => ED.of (d := .tuple [.int (A - Cv * p.2), .int (Bv + Cv * p.1)]) (by repeat' first | walk_at "ev2" | exact mulL lC | fail) rfl) (show _ = (ps.map fun p => (A - Cv * p.2, Bv + Cv * p.1)).map numV by rw [List.map_map]; rfl)) ?_)
    have vb : Box 63 (ps.map fun p => (A - Cv * p.2, Bv + Cv * p.1)) := fun p hp => by
      obtain ⟨p, hp2, rfl⟩ := List.mem_map.mp hp
      obtain ⟨a1, a2, a3, a4⟩ := pb p hp2
      have m1 := mul_box (a := 3) (b := 20) (x := Cv) (y := p.2) (by omega) ⟨a3, a4⟩ (by decide) (by decide)
      have m2 := mul_box (a := 3) (b := 20) (x := Cv) (y := p.1) (by omega) ⟨a1, a2⟩ (by decide) (by decide)
      exact ⟨by show _ ≤ A - Cv * p.2; omega, by show A - Cv * p.2 ≤ _; omega, by show _ ≤ Bv + Cv * p.1; omega, by show Bv + Cv * p.1 ≤ _; omega⟩
    have vl : (ps.map fun p => (A - Cv * p.2, Bv + Cv * p.1)).length = n := by rw [List.length_map]; exact pl
    generalize (ps.map fun p => (A - Cv * p.2, Bv + Cv * p.1)) = vs at *
    refine wp_seq (wp_cut (fun δ => ∃ (vs : List (Int × Int)) (f g h i : SV), δ = [.val (.list (ns.map PyData.int)), .val (.list (Q.map PyData.int)), .val (.int (n : Nat)), .val (.tuple (ps.map numV)), .val (.int A), .val (.int Bv), .val (.int Cv), .own (.l (vs.map numV)), f, g, h, i] ∧ vs.length = n ∧ Box 63 vs) (wp_if (b := (Q.getD 2 0 == 0)) (by repeat' first | walk_at "ev2" | exact q2 | fail) (fun h => ?_) (fun h => ?_)) ?_)
    · have c13 : R_cell [.list (ns.map PyData.int), .int 13] (.int (ns.getD 13 0)) := ⟨ns, 13, rfl, rfl⟩
      have p13 : R_parts [.int (ns.getD 13 0), .list ((List.replicate 14 (3 : Int)).map PyData.int)] (.list ((partsOf (ns.getD 13 0) (List.replicate 14 3)).map PyData.int)) := ⟨_, _, rfl, sizes_ok (by decide +kernel), by decide, rfl⟩
      have l13 : (partsOf (ns.getD 13 0) (List.replicate 14 3)).length = 14 := parts_len _ _
      have g13 : ∀ i, i < 14 → _ := fun i hi => parts_rep (cell := ns.getD 13 0) (s := 3) (m := 14) (by decide) hi
      generalize partsOf (ns.getD 13 0) (List.replicate 14 3) = G at *
      refine wp_seq (wp_asg (d := .list (G.map PyData.int)) (by repeat' first | walk_at "ev2" | exact c13 | exact p13 | (show -(2 ^ 63) ≤ _ ∧ _; decide) | fail) ?_)
      refine wp_asgN (EN.of (en_lcA (xs := List.range n) (gd := fun k => PyData.int (k : Nat)) (f := fun k => numV (G.getD (2 * k) 0 - 1, G.getD (2 * k + 1) 0 - 1)) (ei_rngN (ed_var rfl) rfl (by omega)) rl (fun p hp => gw_name (by decide)) fun k hk => ?_) (show _ = ((List.range n).map fun k => (G.getD (2 * k) 0 - 1, G.getD (2 * k + 1) 0 - 1)).map numV by rw [List.map_map]; rfl)) ?_
      · have hk := List.mem_range.mp hk
        have i1 : itemD (.list (G.map PyData.int)) ((2 * k : Nat) : Int) = some (.int (G.getD (2 * k) 0)) := at_int (by omega)
        have i2 : itemD (.list (G.map PyData.int)) ((2 * k + 1 : Nat) : Int) = some (.int (G.getD (2 * k + 1) 0)) := at_int (by omega)
        rw [show ((2 * k : Nat) : Int) = 2 * (k : Int) by omega] at i1
        rw [show ((2 * k + 1 : Nat) : Int) = 2 * (k : Int) + 1 by omega] at i2
        exact ED.of (d := .tuple [.int (G.getD (2 * k) 0 - 1), .int (G.getD (2 * k + 1) 0 - 1)]) (by repeat' first | walk_at "ev2" | exact i1 | exact i2 | exact mulL (by decide) | fail) rfl
      · refine ⟨_, _, _, _, _, rfl, by rw [List.length_map, List.length_range], fun p hp => ?_⟩
        obtain ⟨k, hk, rfl⟩ := List.mem_map.mp hp
        have hk := List.mem_range.mp hk
        have b1 := g13 (2 * k) (by omega)
        have b2 := g13 (2 * k + 1) (by omega)
        exact ⟨by show _ ≤ _ - (1 : Int); omega, by show _ - (1 : Int) ≤ _; omega, by show _ ≤ _ - (1 : Int); omega, by show _ - (1 : Int) ≤ _; omega⟩
    · exact wp_next ⟨vs, _, _, _, _, rfl, vl, vb⟩
    try clear vl vb vs
    rintro δ ⟨vs, f, g, h, i, rfl, vl, vb⟩
    refine wp_seq (wp_cut (fun δ => ∃ (vs : List (Int × Int)) (f g h i : SV), δ = [.val (.list (ns.map PyData.int)), .val (.list (Q.map PyData.int)), .val (.int (n : Nat)), .val (.tuple (ps.map numV)), .val (.int A), .val (.int Bv), .val (.int Cv), .own (.l (vs.map numV)), f, g, h, i] ∧ vs.length = n ∧ Box 70 vs) (wp_if (b := (Q.getD 2 0 == 1)) (by repeat' first | walk_at "ev2" | exact q2 | fail) (fun h => ?_) (fun h => ?_)) ?_)
    · have h0 := Int.emod_nonneg (Q.getD 6 0) (show (n : Int) ≠ 0 by omega)
      have h1 := Int.emod_lt_of_pos (Q.getD 6 0) (show (0 : Int) < n by omega)
      obtain ⟨k, hk⟩ : ∃ k : Nat, Q.getD 6 0 % (n : Int) = k := ⟨(Q.getD 6 0 % (n : Int)).toNat, by omega⟩
      have hkn : k < n := by omega
      refine wp_seq (wp_asg (d := .int (k : Nat)) (ED.of (d := .int (Q.getD 6 0 % (n : Int))) (by repeat' first | walk_at "ev2" | exact q6 | (show (0 : Int) < _; omega) | fail) (by rw [hk])) ?_)
      have vk : atI (vs.map numV) (k : Nat) = some (numV (vs.getD k (0, 0))) := at_lst (x := vs) (g := numV) (c := k) (d := (0, 0)) (by omega)
      have bk := box_get vb (show k < vs.length by omega)
      refine wp_setOwn (d := numV ((vs.getD k (0, 0)).1 + Q.getD 7 0 - 2, (vs.getD k (0, 0)).2 + Q.getD 8 0 - 1)) (k := (k : Nat)) (j := k) rfl (ED.of (d := .tuple [.int ((vs.getD k (0, 0)).1 + Q.getD 7 0 - 2), .int ((vs.getD k (0, 0)).2 + Q.getD 8 0 - 1)]) (by repeat' first | exact ed_ixOwn rfl (ed_var rfl) vk | walk_at "ev2" | exact q7 | exact q8 | fail) rfl) (ed_var rfl) (ixN_at (by omega) (by rw [List.length_map]; omega) (by omega)) ?_
      refine ⟨vs.set k ((vs.getD k (0, 0)).1 + Q.getD 7 0 - 2, (vs.getD k (0, 0)).2 + Q.getD 8 0 - 1), _, _, _, _, by rw [List.map_set]; rfl, by rw [List.length_set]; exact vl, fun p hp => ?_⟩
      rcases List.mem_or_eq_of_mem_set hp with z | z
      · obtain ⟨a1, a2, a3, a4⟩ := vb p z
        exact ⟨by omega, by omega, by omega, by omega⟩
      · rw [z]
        exact ⟨by show _ ≤ _ - (2 : Int); omega, by show _ - (2 : Int) ≤ _; omega, by show _ ≤ _ - (1 : Int); omega, by show _ - (1 : Int) ≤ _; omega⟩
    · exact wp_next ⟨vs, _, _, _, _, rfl, vl, fun p hp => by
        obtain ⟨a1, a2, a3, a4⟩ := vb p hp
        exact ⟨by omega, by omega, by omega, by omega⟩⟩
    try clear vl vb vs
    rintro δ ⟨vs, f, g, h, i, rfl, vl, vb⟩
    refine wp_freeze 7 rfl ?_
    have ok : (⟨ps, vs⟩ : RgA).Ok := ⟨fun p hp => by
      obtain ⟨a1, a2, a3, a4⟩ := pb p hp
      exact ⟨lt_small' a1 a2 (by decide), lt_small' a3 a4 (by decide)⟩, fun p hp => by
      obtain ⟨a1, a2, a3, a4⟩ := vb p hp
      exact ⟨lt_small' a1 a2 (by decide), lt_small' a3 a4 (by decide)⟩, by show vs.length = ps.length; omega, by show 0 < ps.length; omega, by show ps.length ≤ 1000; omega⟩
    obtain ⟨bb, hbb⟩ : ∃ b : Bool, b = true ↔ RigQ (waysM ps vs) := by
      by_cases z : RigQ (waysM ps vs)
      · exact ⟨true, by simp [z]⟩
      · exact ⟨false, by simp [z]⟩
    have r1 : R_rigid [.tuple (ps.map numV), .tuple (vs.map numV)] (.bool bb) := ⟨⟨ps, vs⟩, bb, rfl, ok, hbb, rfl⟩
    have r2 : R_lrigid [.tuple (ps.map numV), .list (vs.map numV)] (.bool bb) := ⟨⟨ps, vs⟩, _, bb, rfl, fun k hk => at_lst (by simp only at hk; omega), ok, hbb, rfl⟩
    refine wp_seq (wp_asg (d := .bool bb) (ed_call (ds := [.tuple (ps.map numV), .tuple (vs.map numV)]) (ea_cons (ed_var rfl) (ea_cons (ed_tupleOf (ed_var rfl) rfl) ea_nil)) r1) ?_)
    refine wp_ret (d := .bool true) (ED.of (d := .bool (true && PyData.eqv (.bool bb) (.bool bb))) (by repeat' first | walk_at "ev2" | exact r2 | exact Shp.shaped (n := 0) shp_bool | fail) (by rw [eqv_self (n := 0) shp_bool]; rfl)) rfl

theorem law_end {K : PySem.W.Frag} {H : Hp} {a : Addr} {ns : List Int} (hl : ns.length ≤ 63) (hS : SqL K H a (ns.map V.int)) : spD K R_law [.ref a] H (fun v _ => v = .bl true) (fun _ _ _ => False) :=
  ⟨H, [.list (ns.map PyData.int)], .bool true, ⟨ns, rfl, hl, rfl⟩, Same.refl _, .cons (.lst hS DqAll.ofInts) .nil, fun _ _ _ _ dv => Dq.bool_inv dv⟩
end
theorem all_mk {l : PySem.W.OpenLaw} {w : World} {K : PySem.W.Frag} {h : Heap} {mg : Str → Option Value} {fa : Addr} (X : K.In h) (G : h.Ns mainGlobals mg) (hfa : mg "law" = some (.ref fa))
    {f0 f1 f2 f3 f4 f5 f6 : Addr}
    {od0 an0 : Option Addr} {sl0 : Array (Option Value)} {oc0 kV0 dc0 pm0 cd0 ct0 : Value}
    {od1 an1 : Option Addr} {sl1 : Array (Option Value)} {oc1 kV1 dc1 pm1 cd1 ct1 : Value}
    {od2 an2 : Option Addr} {sl2 : Array (Option Value)} {oc2 kV2 dc2 pm2 cd2 ct2 : Value}
    {od3 an3 : Option Addr} {sl3 : Array (Option Value)} {oc3 kV3 dc3 pm3 cd3 ct3 : Value}
    {od4 an4 : Option Addr} {sl4 : Array (Option Value)} {oc4 kV4 dc4 pm4 cd4 ct4 : Value}
    {od5 an5 : Option Addr} {sl5 : Array (Option Value)} {oc5 kV5 dc5 pm5 cd5 ct5 : Value}
    {od6 an6 : Option Addr} {sl6 : Array (Option Value)} {oc6 kV6 dc6 pm6 cd6 ct6 : Value}
    (a0 : PySem.W.nsIn K mainGlobals "is_rigid" = some (some (.ref f0))) (l0 : K.lookup f0 = some ⟨oc0, od0, .func (PySem.W.fnOf "is_rigid" "is_rigid" (defArgs s_is_rigid) (defBody s_is_rigid) (defScope s_is_rigid) .none kV0 dc0 pm0 an0 cd0 ct0), sl0⟩) (c0 : PySem.W.codeIn K cd0 "is_rigid" = true) (k0 : PySem.W.keepIn K (.ref f0) = true)
    (a1 : PySem.W.nsIn K mainGlobals "apart" = some (some (.ref f1))) (l1 : K.lookup f1 = some ⟨oc1, od1, .func (PySem.W.fnOf "apart" "apart" (defArgs s_apart) (defBody s_apart) (defScope s_apart) .none kV1 dc1 pm1 an1 cd1 ct1), sl1⟩) (c1 : PySem.W.codeIn K cd1 "apart" = true) (k1 : PySem.W.keepIn K (.ref f1) = true)
    (a2 : PySem.W.nsIn K mainGlobals "_law_cell" = some (some (.ref f2))) (l2 : K.lookup f2 = some ⟨oc2, od2, .func (PySem.W.fnOf "_law_cell" "_law_cell" (defArgs s_u_law_cell) (defBody s_u_law_cell) (defScope s_u_law_cell) .none kV2 dc2 pm2 an2 cd2 ct2), sl2⟩) (c2 : PySem.W.codeIn K cd2 "_law_cell" = true) (k2 : PySem.W.keepIn K (.ref f2) = true)
    (a3 : PySem.W.nsIn K mainGlobals "_law_parts" = some (some (.ref f3))) (l3 : K.lookup f3 = some ⟨oc3, od3, .func (PySem.W.fnOf "_law_parts" "_law_parts" (defArgs s_u_law_parts) (defBody s_u_law_parts) (defScope s_u_law_parts) .none kV3 dc3 pm3 an3 cd3 ct3), sl3⟩) (c3 : PySem.W.codeIn K cd3 "_law_parts" = true) (k3 : PySem.W.keepIn K (.ref f3) = true)
    (a4 : PySem.W.nsIn K mainGlobals "_law_points" = some (some (.ref f4))) (l4 : K.lookup f4 = some ⟨oc4, od4, .func (PySem.W.fnOf "_law_points" "_law_points" (defArgs s_u_law_points) (defBody s_u_law_points) (defScope s_u_law_points) .none kV4 dc4 pm4 an4 cd4 ct4), sl4⟩) (c4 : PySem.W.codeIn K cd4 "_law_points" = true) (k4 : PySem.W.keepIn K (.ref f4) = true)
    (a5 : PySem.W.nsIn K mainGlobals "_law_rigid" = some (some (.ref f5))) (l5 : K.lookup f5 = some ⟨oc5, od5, .func (PySem.W.fnOf "_law_rigid" "_law_rigid" (defArgs s_u_law_rigid) (defBody s_u_law_rigid) (defScope s_u_law_rigid) .none kV5 dc5 pm5 an5 cd5 ct5), sl5⟩) (c5 : PySem.W.codeIn K cd5 "_law_rigid" = true) (k5 : PySem.W.keepIn K (.ref f5) = true)
    (a6 : PySem.W.nsIn K mainGlobals "law" = some (some (.ref f6))) (l6 : K.lookup f6 = some ⟨oc6, od6, .func (PySem.W.fnOf "law" "law" (defArgs s_law) (defBody s_law) (defScope s_law) .none kV6 dc6 pm6 an6 cd6 ct6), sl6⟩) (c6 : PySem.W.codeIn K cd6 "law" = true) (k6 : PySem.W.keepIn K (.ref f6) = true)
    (z_all : PySem.W.nsIn K mainGlobals "all" = some none)
    (z_bool : PySem.W.nsIn K mainGlobals "bool" = some none)
    (z_int : PySem.W.nsIn K mainGlobals "int" = some none)
    (z_isinstance : PySem.W.nsIn K mainGlobals "isinstance" = some none)
    (z_len : PySem.W.nsIn K mainGlobals "len" = some none)
    (z_range : PySem.W.nsIn K mainGlobals "range" = some none)
    (z_tuple : PySem.W.nsIn K mainGlobals "tuple" = some none)
    : ∃ fd : FuncData, (∀ (s : Shared) (v : Value), BindsTo s fd ⟨[v], []⟩ [("script", v)]) ∧ ∀ base : Heap, K.In base → base.Ns mainGlobals mg → FnOk l.prog w K mg base CX0 3 fa fd ["script"] (spD K R_law) := by
  have e2 : f6 = fa := by
    have e := hfa.symm.trans (PySem.W.mg_of X G a6)
    cases e
    rfl
  subst e2
  have F0 := fun_mk (st := s_is_rigid) l0 c0 k0
  have F1 := fun_mk (st := s_apart) l1 c1 k1
  have F2 := fun_mk (st := s_u_law_cell) l2 c2 k2
  have F3 := fun_mk (st := s_u_law_parts) l3 c3 k3
  have F4 := fun_mk (st := s_u_law_points) l4 c4 k4
  have F5 := fun_mk (st := s_u_law_rigid) l5 c5 k5
  have F6 := fun_mk (st := s_law) l6 c6 k6
  let T : Txt K mg := {
    f_is_rigid := f0, fd_is_rigid := _, F_is_rigid := F0, g_is_rigid := PySem.W.mg_of X G a0,
    b_is_rigid := F0.binds (ps := ["points", "motion"]) fun _ _ _ _ _ _ us hl => match us, hl with | [_, _], _ => rfl,
    f_apart := f1, fd_apart := _, F_apart := F1, g_apart := PySem.W.mg_of X G a1,
    b_apart := F1.binds (ps := ["points", "motion", "k"]) fun _ _ _ _ _ _ us hl => match us, hl with | [_, _, _], _ => rfl,
    f_u_law_cell := f2, fd_u_law_cell := _, F_u_law_cell := F2, g_u_law_cell := PySem.W.mg_of X G a2,
    b_u_law_cell := F2.binds (ps := ["script", "k"]) fun _ _ _ _ _ _ us hl => match us, hl with | [_, _], _ => rfl,
    f_u_law_parts := f3, fd_u_law_parts := _, F_u_law_parts := F3, g_u_law_parts := PySem.W.mg_of X G a3,
    b_u_law_parts := F3.binds (ps := ["cell", "sizes"]) fun _ _ _ _ _ _ us hl => match us, hl with | [_, _], _ => rfl,
    f_u_law_points := f4, fd_u_law_points := _, F_u_law_points := F4, g_u_law_points := PySem.W.mg_of X G a4,
    b_u_law_points := F4.binds (ps := ["script", "n", "size"]) fun _ _ _ _ _ _ us hl => match us, hl with | [_, _, _], _ => rfl,
    f_u_law_rigid := f5, fd_u_law_rigid := _, F_u_law_rigid := F5, g_u_law_rigid := PySem.W.mg_of X G a5,
    b_u_law_rigid := F5.binds (ps := ["points", "motion"]) fun _ _ _ _ _ _ us hl => match us, hl with | [_, _], _ => rfl,
    f_law := f6, fd_law := _, F_law := F6, g_law := PySem.W.mg_of X G a6,
    z_all := PySem.W.mg_none_of X G z_all,
    z_bool := PySem.W.mg_none_of X G z_bool,
    z_int := PySem.W.mg_none_of X G z_int,
    z_isinstance := PySem.W.mg_none_of X G z_isinstance,
    z_len := PySem.W.mg_none_of X G z_len,
    z_range := PySem.W.mg_none_of X G z_range,
    z_tuple := PySem.W.mg_none_of X G z_tuple,
  }
  exact ⟨PySem.W.fnOf "law" "law" (defArgs s_law) (defBody s_law) (defScope s_law) .none kV6 dc6 pm6 an6 cd6 ct6, fun s v => .of_eq rfl, fun base _ _ => ok_law T⟩
end DX
open PySem PySem.W PyProof.Rows
set_option maxHeartbeats 0 in
theorem PySem.Challenge.cw_loadorloose_k22_rigid_motions_holds : PySem.Challenge.rw_loadorloose_k22_rigid_motions.Holds := by
  w_on; o_law; k_head; (case hw => w_witness2)
  k_fill
  refine L2.walk_of (l := PySem.Challenge.rw_loadorloose_k22_rigid_motions) (n := 63) (k := 3) (x := "script") (CX := fun _ => L2.CX0) (sp := fun w => DX.spD _ DX.R_law) rfl (by decide) rfl ⟨rfl, by decide, by decide⟩ (fun w h Y => PySem.W.kIn_of Y) ?F (fun _ _ a ns hl _ hS => DX.law_end hl hS) (fun _ _ _ _ _ h => h)
  case F =>
    intro w mg fa h KX G hmg
    refine' DX.all_mk KX G hmg ?a0 ?l0 ?c0 ?k0 ?a1 ?l1 ?c1 ?k1 ?a2 ?l2 ?c2 ?k2 ?a3 ?l3 ?c3 ?k3 ?a4 ?l4 ?c4 ?k4 ?a5 ?l5 ?c5 ?k5 ?a6 ?l6 ?c6 ?k6 ?z_all ?z_bool ?z_int ?z_isinstance ?z_len ?z_range ?z_tuple
    (case a0 => k_is); (case l0 => k_is); (case c0 => k_is); (case k0 => k_is); (case a1 => k_is); (case l1 => k_is); (case c1 => k_is); (case k1 => k_is); (case a2 => k_is); (case l2 => k_is); (case c2 => k_is); (case k2 => k_is); (case a3 => k_is); (case l3 => k_is); (case c3 => k_is); (case k3 => k_is); (case a4 => k_is); (case l4 => k_is); (case c4 => k_is); (case k4 => k_is); (case a5 => k_is); (case l5 => k_is); (case c5 => k_is); (case k5 => k_is); (case a6 => k_is); (case l6 => k_is); (case c6 => k_is); (case k6 => k_is); (case z_all => k_is); (case z_bool => k_is); (case z_int => k_is); (case z_isinstance => k_is); (case z_len => k_is); (case z_range => k_is); (case z_tuple => k_is)

