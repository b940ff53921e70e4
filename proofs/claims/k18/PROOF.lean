import PyProof.Rows.All
import Wide.All
import OpenK.AllK
import Wide.FinOn
import HandS.ForMost
import HandS.Wide
import HandS.Gcd
import HandS.IsInst
import HandS.TupAny
import HandS.Conv
import HandS.Style
import HandS.Lambda
import HandS.SetFor
import HandS.Strs
import HandS.Zip
import KE.GoesMore
import HandS.SortInts
import HandS.SortKw
import HandS.EndTab
import KE.DataMinKey
import KE.KNestM
import KE.DataFind
import HandS.Deep
import HandS.TryOnly
import HandS.Star
import HandS.WideBits
import HandS.TupSets
import HandS.Keys
import KE.SortKeyHeap
import KE.SortUse
import HandS.More
import HandS.HeadHook3
import PySem.Challenge.RW_loadorloose_k18_uses
set_option Elab.async false
set_option linter.all false
set_option maxRecDepth 100000
set_option maxHeartbeats 4000000
namespace L2
open PySem
abbrev D := PyData
/-! ### what is left as it was, but for tables of code objects -/
def NT (o : HO) : Prop := ∀ ps, o ≠ .tbl ps
def Sam (H H' : Hp) : Prop := ∀ a o, H a = some o → ∃ o', H' a = some o' ∧ (NT o → o' = o)
section
variable {H H1 H2 : Hp}
theorem Sam.refl (H : Hp) : Sam H H := fun a o e => ⟨o, e, fun _ => rfl⟩
theorem Sam.at (h : Sam H H1) {a : Addr} {o : HO} (e : H a = some o) (n : NT o := by exact fun _ z => nomatch z) : H1 a = some o := by
  obtain ⟨o', e', q⟩ := h a o e
  rw [e', q n]
theorem Sam.trans (h : Sam H H1) (h' : Sam H1 H2) : Sam H H2 := fun a o e => by
  obtain ⟨o1, e1, q1⟩ := h a o e
  obtain ⟨o2, e2, q2⟩ := h' a o1 e1
  refine ⟨o2, e2, fun n => ?_⟩
  have z := q1 n
  subst z
  exact q2 n
theorem Sam.free (h : Sam H H1) {a : Addr} (e : H1 a = none) : H a = none := by
  cases q : H a with
  | none => rfl
  | some o =>
    obtain ⟨o', e', _⟩ := h a o q
    rw [e] at e'; cases e'
theorem Sam.of (h : Same H H1) : Sam H H1 := fun a o e => ⟨o, h a o e, fun _ => rfl⟩
theorem Sam.seq {K : PySem.W.Frag} (h : Sam H H1) {a : Addr} {xs : List V} (s : SqL K H a xs) : SqL K H1 a xs := by
  rcases s with (e | ⟨o, e⟩) | s
  · exact .inl (.inl (h.at e))
  · exact .inl (.inr ⟨o, h.at e⟩)
  · exact .inr s
end
/-- which names the code objects in a table have -/
class TabEnv where
  T : List (Addr × Str)
  un : ∀ p ∈ T, ∀ p' ∈ T, p.1 = p'.1 → p.2 = p'.2
def TabsG [E : TabEnv] (H : Hp) : Prop := ∀ p ∈ E.T, LamX.TabS H p.1 p.2
structure Bh [TabEnv] (B H : Hp) : Prop where
  sm : Sam B H
  tb : TabsG H
instance bhSam [TabEnv] {B H : Hp} : Coe (Bh B H) (Sam B H) := ⟨Bh.sm⟩
section
variable [TabEnv] {B H : Hp}
theorem Bh.free (h : Bh B H) {a : Addr} (e : H a = none) : B a = none := h.sm.free e
theorem Bh.at (h : Bh B H) {a : Addr} {o : HO} (e : B a = some o) (n : NT o := by exact fun _ z => nomatch z) : H a = some o := h.sm.at e n
theorem Bh.seq {K : PySem.W.Frag} (h : Bh B H) {a : Addr} {xs : List V} (s : SqL K B a xs) : SqL K H a xs := h.sm.seq s
/-- tables under a change of what is neither a table nor a code object -/
theorem TabsG.upd {p : Addr} {u : HO} (t : TabsG H) (h : H p = none ∨ ∃ o, H p = some o ∧ NT o ∧ ∀ φ, o ≠ .ext φ) (hu : NT u) : TabsG (upd H p u) := fun q mq => by
  obtain ⟨ps, e, a, b⟩ := t q mq
  have hP : q.1 ≠ p := fun z => by
    rw [z] at e
    rcases h with h | ⟨o, h, n, _⟩
    · rw [h] at e; cases e
    · rw [h] at e
      exact n ps (Option.some.inj e)
  refine ⟨ps, by rw [upd_ne hP]; exact e, a, fun pos cv hc => ?_⟩
  obtain ⟨c, e1, e2⟩ := b pos cv hc
  refine ⟨c, e1, ?_⟩
  have hc : c ≠ p := fun z => by
    rw [z] at e2
    rcases h with h | ⟨o, h, _, hx⟩
    · rw [h] at e2; cases e2
    · rw [h] at e2
      exact hx _ (Option.some.inj e2)
  rw [upd_ne hc]; exact e2
end
theorem sqT_up {K : PySem.W.Frag} {H H' : Hp} {a : Addr} {xs : List V} (e : Sam H H') (h : SqT K H a xs) : SqT K H' a xs := by
  rcases h with (h | ⟨o, h⟩) | h
  · exact .inl (.inl (e.at h))
  · exact .inl (.inr ⟨o, e.at h⟩)
  · exact .inr h
theorem rd_up {H H' : Hp} {a : Addr} {u : HO} (e : Sam H H') (h : Rd H a u) (n : NT u := by exact fun _ z => nomatch z) : Rd H' a u := by
  rcases h with h | ⟨o, h⟩
  · exact .inl (e.at h n)
  · exact .inr ⟨o, e.at h⟩
mutual
inductive Dq (K : PySem.W.Frag) (H : Hp) : V → D → Prop
  | non : Dq K H .non .none
  | bl (b : Bool) : Dq K H (.bl b) (.bool b)
  | int (i : Int) : Dq K H (.int i) (.int i)
  | str (x : Str) : Dq K H (.str x) (.str x)
  | lst {a : Addr} {xs : List V} {ds : List D} : SqL K H a xs → DqAll K H xs ds → Dq K H (.ref a) (.list ds)
  | tup {a : Addr} {xs : List V} {ds : List D} : SqT K H a xs → DqAll K H xs ds → Dq K H (.ref a) (.tuple ds)
  | dct {a : Addr} {xs : List (Key × V)} {ds : List (D × D)} : Rd H a (.dK xs) → DqKv K H xs ds → Dq K H (.ref a) (.dict ds)
inductive DqAll (K : PySem.W.Frag) (H : Hp) : List V → List D → Prop
  | nil : DqAll K H [] []
  | cons {v : V} {vs : List V} {d : D} {ds : List D} : Dq K H v d → DqAll K H vs ds → DqAll K H (v :: vs) (d :: ds)
inductive DqKv (K : PySem.W.Frag) (H : Hp) : List (Key × V) → List (D × D) → Prop
  | nil : DqKv K H [] []
  | cons {k : Key} {v : V} {vs : List (Key × V)} {e d : D} {ds : List (D × D)} : Dq K H (kV k) e → Dq K H v d → DqKv K H vs ds → DqKv K H ((k, v) :: vs) ((e, d) :: ds)
end
section
variable {K : PySem.W.Frag} {H H' : Hp}
mutual
theorem Dq.up (e : Sam H H') : ∀ (d : D) (v : V), Dq K H v d → Dq K H' v d
  | .none, _, h => by cases h; exact .non
  | .bool b, _, h => by cases h; exact .bl b
  | .int i, _, h => by cases h; exact .int i
  | .str x, _, h => by cases h; exact .str x
  | .list ds, _, h => by
    cases h with
    | lst hs ha => exact .lst (e.seq hs) (DqAll.up e ds _ ha)
  | .tuple ds, _, h => by
    cases h with
    | tup hs ha => exact .tup (sqT_up e hs) (DqAll.up e ds _ ha)
  | .dict ds, _, h => by
    cases h with
    | dct hs ha => exact .dct (rd_up e hs) (DqKv.up e ds _ ha)
theorem DqAll.up (e : Sam H H') : ∀ (ds : List D) (vs : List V), DqAll K H vs ds → DqAll K H' vs ds
  | [], _, h => by cases h; exact .nil
  | d :: ds, _, h => by
    cases h with
    | cons h1 h2 => exact .cons (Dq.up e d _ h1) (DqAll.up e ds _ h2)
theorem DqKv.up (e : Sam H H') : ∀ (ds : List (D × D)) (vs : List (Key × V)), DqKv K H vs ds → DqKv K H' vs ds
  | [], _, h => by cases h; exact .nil
  | (f, d) :: ds, _, h => by
    cases h with
    | cons h1 h2 h3 => exact .cons (Dq.up e f _ h1) (Dq.up e d _ h2) (DqKv.up e ds _ h3)
end
mutual
theorem Dq.dp : ∀ (d : D) (v : V), Dq K H v d → d.canLay0 = true → Dp K H v d
  | .none, _, h, _ => by cases h; exact .non
  | .bool b, _, h, _ => by cases h; exact .bl b
  | .int i, _, h, _ => by cases h; exact .int i
  | .str x, _, h, _ => by cases h; exact .str x
  | .list ds, _, h, c => by
    simp only [PyData.canLay0] at c
    cases h with
    | lst hs ha => exact .lst hs (DqAll.dp ds _ ha c)
  | .tuple ds, _, h, c => by
    simp only [PyData.canLay0] at c
    cases h with
    | tup hs ha => exact .tup hs (DqAll.dp ds _ ha c)
  | .dict ds, _, h, c => by simp only [PyData.canLay0] at c; cases c
theorem DqAll.dp : ∀ (ds : List D) (vs : List V), DqAll K H vs ds → PyData.canLayAll0 ds = true → DpAll K H vs ds
  | [], _, h, _ => by cases h; exact .nil
  | d :: ds, _, h, c => by
    simp only [PyData.canLayAll0, Bool.and_eq_true] at c
    cases h with
    | cons h1 h2 => exact .cons (Dq.dp d _ h1 c.1) (DqAll.dp ds _ h2 c.2)
end
theorem DqKv.len : ∀ {vs : List (Key × V)} {ds : List (D × D)}, DqKv K H vs ds → vs.length = ds.length
  | _, [], h => by cases h; rfl
  | _, d :: ds, h => by
    cases h with
    | cons h1 h2 h3 => simp only [List.length_cons]; rw [DqKv.len h3]
theorem DqAll.len : ∀ {vs : List V} {ds : List D}, DqAll K H vs ds → vs.length = ds.length
  | _, [], h => by cases h; rfl
  | _, d :: ds, h => by
    cases h with
    | cons h1 h2 => simp only [List.length_cons]; rw [DqAll.len h2]
theorem DqAll.get : ∀ {vs : List V} {ds : List D} {i : Nat} {d : D}, DqAll K H vs ds → ds[i]? = some d → ∃ v, vs[i]? = some v ∧ Dq K H v d
  | _, [], _, _, _, e => by simp at e
  | _, x :: ds, 0, d, h, e => by
    cases h with
    | cons h1 h2 => simp at e; subst e; exact ⟨_, rfl, h1⟩
  | _, x :: ds, i + 1, d, h, e => by
    cases h with
    | cons h1 h2 =>
      obtain ⟨v, a, b⟩ := DqAll.get (i := i) h2 (by simpa using e)
      exact ⟨v, by simpa using a, b⟩
theorem DqAll.getV : ∀ {vs : List V} {ds : List D} {i : Nat} {v : V}, DqAll K H vs ds → vs[i]? = some v → ∃ d, ds[i]? = some d ∧ Dq K H v d
  | [], _, _, _, _, e => by simp at e
  | x :: vs, _, 0, d, h, e => by
    cases h with
    | cons h1 h2 => simp at e; subst e; exact ⟨_, rfl, h1⟩
  | x :: vs, _, i + 1, d, h, e => by
    cases h with
    | cons h1 h2 =>
      obtain ⟨v, a, b⟩ := DqAll.getV (i := i) h2 (by simpa using e)
      exact ⟨v, by simpa using a, b⟩
theorem DqAll.app : ∀ {vs ws : List V} {ds es : List D}, DqAll K H vs ds → DqAll K H ws es → DqAll K H (vs ++ ws) (ds ++ es)
  | _, _, [], _, h, h' => by cases h; exact h'
  | _, _, d :: ds, _, h, h' => by
    cases h with
    | cons h1 h2 => exact .cons h1 (DqAll.app h2 h')
theorem DqAll.take : ∀ (n : Nat) {vs : List V} {ds : List D}, DqAll K H vs ds → DqAll K H (vs.take n) (ds.take n)
  | 0, _, _, _ => .nil
  | n + 1, _, [], h => by cases h; exact .nil
  | n + 1, _, d :: ds, h => by
    cases h with
    | cons h1 h2 => exact .cons h1 (DqAll.take n h2)
theorem DqAll.drop : ∀ (n : Nat) {vs : List V} {ds : List D}, DqAll K H vs ds → DqAll K H (vs.drop n) (ds.drop n)
  | 0, _, _, h => h
  | n + 1, _, [], h => by cases h; exact .nil
  | n + 1, _, d :: ds, h => by
    cases h with
    | cons h1 h2 => exact DqAll.drop n h2
theorem DqAll.set {v : V} {d : D} (q : Dq K H v d) : ∀ (n : Nat) {vs : List V} {ds : List D}, DqAll K H vs ds → DqAll K H (vs.set n v) (ds.set n d)
  | _, _, [], h => by cases h; exact .nil
  | 0, _, e :: ds, h => by
    cases h with
    | cons h1 h2 => exact .cons q h2
  | n + 1, _, e :: ds, h => by
    cases h with
    | cons h1 h2 => exact .cons h1 (DqAll.set q n h2)
/-- ints -/
theorem DqAll.ints : ∀ {ns : List Int} {vs : List V}, DqAll K H vs (ns.map PyData.int) → vs = ns.map V.int
  | [], _, h => by cases h; rfl
  | n :: ns, _, h => by
    cases h with
    | cons h1 h2 => cases h1; rw [DqAll.ints h2]; rfl
theorem DqAll.ofInts : ∀ {ns : List Int}, DqAll K H (ns.map V.int) (ns.map PyData.int)
  | [] => .nil
  | n :: ns => .cons (.int n) DqAll.ofInts
theorem DqAll.bools : ∀ {ns : List Bool} {vs : List V}, DqAll K H vs (ns.map PyData.bool) → vs = ns.map V.bl
  | [], _, h => by cases h; rfl
  | n :: ns, _, h => by
    cases h with
    | cons h1 h2 => cases h1; rw [DqAll.bools h2]; rfl
end

section
variable {K : PySem.W.Frag}
theorem Dq.int_inv {H : Hp} {v : V} {i : Int} (h : Dq K H v (.int i)) : v = .int i := by cases h; rfl
theorem Dq.bool_inv {H : Hp} {v : V} {b : Bool} (h : Dq K H v (.bool b)) : v = .bl b := by cases h; rfl
end
end L2
namespace DX
open PySem L2
variable [TabEnv]

/-! ### the local names -/
inductive OD where
  | l (ds : List D)
  | m (es : List (D × D))
inductive SV where
  | no
  | val (d : D)
  | own (x : OD)
  | ob (C : Addr) (fs : List (Str × D))
  | big (R : Hp → Hp → V → Prop) (F : List Addr)
def OwnRep (K : PySem.W.Frag) (B : Hp) (o : HO) : OD → Prop
  | .l ds => ∃ vs, o = .lst vs ∧ DqAll K B vs ds
  | .m es => ∃ kvs, o = .dK kvs ∧ DqKv K B kvs es
theorem OwnRep.up {K : PySem.W.Frag} {B B' : Hp} {o : HO} (e : Sam B B') : ∀ {x : OD}, OwnRep K B o x → OwnRep K B' o x
  | .l ds, ⟨vs, a, b⟩ => ⟨vs, a, DqAll.up e ds _ b⟩
  | .m es, ⟨vs, a, b⟩ => ⟨vs, a, DqKv.up e es _ b⟩

structure Hist (B0 H0 B H : Hp) : Prop where
  bb : Sam B0 B
  bh : Bh B H
  hh : Sam H0 H
  fr : ∀ a, H0 a ≠ none → B0 a = none → B a = none

/-- the fields of an object that is only read -/
def FldOk (K : PySem.W.Frag) (B : Hp) (ws : List (Str × V)) (fs : List (Str × D)) : Prop := ∀ f d, (f, d) ∈ fs → ∃ v, ws.lookup f = some v ∧ Dq K B v d
theorem FldOk.up {K : PySem.W.Frag} {B B' : Hp} {ws : List (Str × V)} {fs : List (Str × D)} (e : Sam B B') (h : FldOk K B ws fs) : FldOk K B' ws fs := fun f d m => by
  obtain ⟨v, a, b⟩ := h f d m
  exact ⟨v, a, Dq.up e _ _ b⟩
/-- what stands at F and is known beside it -/
def Stab (K : PySem.W.Frag) (R : Hp → Hp → V → Prop) (F : List Addr) : Prop := ∀ (B H B' H' : Hp) (v : V), R B H v → (∀ w d, Dq K B w d → Dq K B' w d) → (∀ a ∈ F, ∀ o, H a = some o → NT o → H' a = some o) → R B' H' v
def refs : Option V → List Addr
  | some (.ref p) => [p]
  | _ => []
/-- what is a slot's own -/
def foot : SV → Option V → List Addr
  | .own _, o => refs o
  | .ob _ _, o => refs o
  | .big _ F, _ => F
  | .val _, _ => []
  | .no, _ => []
def Apart (σ : L2.St) (δ : List SV) : Prop := ∀ (i j : Nat) (s t : SV) (o q : Option V), i ≠ j → δ[i]? = some s → δ[j]? = some t → σ[i]? = some o → σ[j]? = some q → ∀ a ∈ foot s o, a ∉ foot t q
def SlotOk (K : PySem.W.Frag) (B H H0 : Hp) (o : Option V) : SV → Prop
  | .no => True
  | .big R F => ∃ v, o = some v ∧ R B H v ∧ Stab K R F ∧ ∀ a ∈ F, H a ≠ none ∧ B a = none ∧ H0 a = none
  | .ob C fs => ∃ p dx ws, o = some (.ref p) ∧ H p = some (.ins C dx ws) ∧ (∀ x, (ws.lookup x).isSome → x ∈ fs.map (·.1)) ∧ FldOk K B ws fs
  | .val d => ∃ v, o = some v ∧ Dq K B v d
  | .own x => ∃ p u, o = some (.ref p) ∧ H p = some u ∧ B p = none ∧ H0 p = none ∧ OwnRep K B u x

structure Sd (K : PySem.W.Frag) (B0 H0 B H : Hp) (σ : L2.St) (δ : List SV) : Prop where
  hist : Hist B0 H0 B H
  len : σ.length = δ.length
  ok : ∀ (i : Nat) (s : SV), δ[i]? = some s → ∃ o, σ[i]? = some o ∧ SlotOk K B H H0 o s
  apart : Apart σ δ
theorem Sd.apartOwn {K : PySem.W.Frag} {B0 H0 B H : Hp} {σ : L2.St} {δ : List SV} (S : Sd K B0 H0 B H σ δ) (i j : Nat) (p : Addr) (ds es : OD) (n : i ≠ j) (e1 : δ[i]? = some (.own ds)) (e2 : δ[j]? = some (.own es)) (e3 : σ[i]? = some (some (.ref p))) : σ[j]? ≠ some (some (.ref p)) := fun e4 =>
  S.apart i j _ _ _ _ n e1 e2 e3 e4 p (List.mem_singleton.mpr rfl) (List.mem_singleton.mpr rfl)

section
variable {K : PySem.W.Frag} {B0 H0 B H B' H' : Hp} {σ : L2.St} {δ : List SV}

/-- a step that leaves what is there -/
structure Stp (B H B' H' : Hp) : Prop where
  bb : Sam B B'
  bh : Bh B' H'
  hh : Sam H H'
  fr : ∀ a, H a ≠ none → B a = none → B' a = none
theorem Stp.refl (h : Bh B H) : Stp B H B H := ⟨Sam.refl _, h, Sam.refl _, fun _ _ z => z⟩
theorem ne_none_of {a : Addr} (e : Sam H H') (h : H a ≠ none) : H' a ≠ none := fun z => h (e.free z)
theorem rep_nt {B : Hp} {u : HO} : ∀ {x : OD}, OwnRep K B u x → NT u
  | .l ds, ⟨vs, a, _⟩ => by subst a; exact fun _ z => nomatch z
  | .m es, ⟨vs, a, _⟩ => by subst a; exact fun _ z => nomatch z
theorem rep_ext {B : Hp} {u : HO} : ∀ {x : OD}, OwnRep K B u x → ∀ φ, u ≠ .ext φ
  | .l ds, ⟨vs, a, _⟩ => by subst a; exact fun _ z => nomatch z
  | .m es, ⟨vs, a, _⟩ => by subst a; exact fun _ z => nomatch z
theorem Stp.trans {B1 H1 B2 H2 : Hp} (a : Stp B H B1 H1) (b : Stp B1 H1 B2 H2) : Stp B H B2 H2 :=
  ⟨a.bb.trans b.bb, b.bh, a.hh.trans b.hh, fun x h z => b.fr x (ne_none_of a.hh h) (a.fr x h z)⟩
theorem Stp.hist (s : Stp B H B' H') (h : Hist B0 H0 B H) : Hist B0 H0 B' H' :=
  ⟨h.bb.trans s.bb, s.bh, h.hh.trans s.hh, fun x q z => s.fr x (ne_none_of h.hh q) (h.fr x q z)⟩
theorem SlotOk.step {o : Option V} {x : SV} (s : Stp B H B' H') (h : SlotOk K B H H0 o x) : SlotOk K B' H' H0 o x := by
  cases x with
  | no => exact True.intro
  | ob C fs =>
    obtain ⟨p, dx, ws, e, hp, hn, hf⟩ := h
    exact ⟨p, dx, ws, e, s.hh.at hp, hn, hf.up s.bb⟩
  | big R F =>
    obtain ⟨v, e, r, st, ha⟩ := h
    refine ⟨v, e, st B H B' H' v r (fun w d => Dq.up s.bb d w) (fun a ma o eo no => s.hh.at eo no), st, fun a ma => ?_⟩
    · obtain ⟨h1, h2, h3⟩ := ha a ma
      exact ⟨ne_none_of s.hh h1, s.fr a h1 h2, h3⟩
  | val d => obtain ⟨v, e, q⟩ := h; exact ⟨v, e, Dq.up s.bb _ _ q⟩
  | own ds =>
    obtain ⟨p, vs, e, hp, bp, h0, q⟩ := h
    exact ⟨p, vs, e, s.hh.at hp (rep_nt q), s.fr p (by rw [hp]; exact fun z => nomatch z) bp, h0, q.up s.bb⟩
theorem Sd.step (S : Sd K B0 H0 B H σ δ) (s : Stp B H B' H') : Sd K B0 H0 B' H' σ δ :=
  ⟨s.hist S.hist, S.len, fun i x e => by
    obtain ⟨o, a, q⟩ := S.ok i x e
    exact ⟨o, a, q.step s⟩, S.apart⟩
theorem same_new {p : Addr} {o : HO} (h : H p = none) : Sam H (upd H p o) := fun b x e => by
  rw [upd_ne (ne_of_none e h)]; exact ⟨x, e, fun _ => rfl⟩
/-- a new object, known to both -/
theorem Stp.new {p : Addr} {o : HO} (bh : Bh B H) (h : H p = none) (n : NT o := by exact fun _ z => nomatch z) : Stp B H (upd B p o) (upd H p o) := by
  have hb : B p = none := bh.free h
  refine ⟨same_new hb, ⟨fun a u e => ?_, bh.tb.upd (.inl h) n⟩, same_new h, fun a q z => ?_⟩
  · by_cases ha : a = p
    · subst ha; rw [upd_same] at e ⊢; exact ⟨_, e, fun _ => rfl⟩
    · rw [upd_ne ha] at e ⊢; exact bh.sm _ _ e
  · have ha : a ≠ p := fun e => by subst e; exact q h
    rw [upd_ne ha]; exact z
/-- a new object, owned -/
theorem Stp.newOwn {p : Addr} {o : HO} (bh : Bh B H) (h : H p = none) (n : NT o := by exact fun _ z => nomatch z) : Stp B H B (upd H p o) :=
  ⟨Sam.refl _, ⟨bh.sm.trans (same_new h), bh.tb.upd (.inl h) n⟩, same_new h, fun _ _ z => z⟩
/-- an owned one is made known -/
theorem Stp.know {p : Addr} {o : HO} (bh : Bh B H) (hb : B p = none) (hp : H p = some o) : Sam B (upd B p o) ∧ Bh (upd B p o) H := by
  refine ⟨same_new hb, fun a u e => ?_, bh.tb⟩
  by_cases ha : a = p
  · subst ha; rw [upd_same] at e; cases e; exact ⟨_, hp, fun _ => rfl⟩
  · rw [upd_ne ha] at e; exact bh.sm _ _ e
theorem Sd.slot (S : Sd K B0 H0 B H σ δ) {i : Nat} {d : D} (e : δ[i]? = some (.val d)) : ∃ v, σ[i]? = some (some v) ∧ Dq K B v d := by
  obtain ⟨o, a, v, rfl, q⟩ := S.ok i _ e
  exact ⟨v, a, q⟩
theorem Sd.slotObj (S : Sd K B0 H0 B H σ δ) {i : Nat} {x : OD} (e : δ[i]? = some (.own x)) : ∃ p u, σ[i]? = some (some (.ref p)) ∧ H p = some u ∧ B p = none ∧ H0 p = none ∧ OwnRep K B u x := by
  obtain ⟨o, a, p, vs, rfl, q⟩ := S.ok i _ e
  exact ⟨p, vs, a, q⟩
theorem Sd.slotOwn (S : Sd K B0 H0 B H σ δ) {i : Nat} {ds : List D} (e : δ[i]? = some (.own (.l ds))) : ∃ p vs, σ[i]? = some (some (.ref p)) ∧ H p = some (.lst vs) ∧ B p = none ∧ H0 p = none ∧ DqAll K B vs ds := by
  obtain ⟨p, u, a, hp, b, h0, vs, rfl, q⟩ := S.slotObj e
  exact ⟨p, vs, a, hp, b, h0, q⟩
theorem Sd.slotMap (S : Sd K B0 H0 B H σ δ) {i : Nat} {es : List (D × D)} (e : δ[i]? = some (.own (.m es))) : ∃ p vs, σ[i]? = some (some (.ref p)) ∧ H p = some (.dK vs) ∧ B p = none ∧ H0 p = none ∧ DqKv K B vs es := by
  obtain ⟨p, u, a, hp, b, h0, vs, rfl, q⟩ := S.slotObj e
  exact ⟨p, vs, a, hp, b, h0, q⟩
theorem get_set {α : Type} {xs : List α} {i j : Nat} {x y : α} (h : (xs.set i x)[j]? = some y) : (i = j ∧ x = y) ∨ (i ≠ j ∧ xs[j]? = some y) := by
  by_cases e : i = j
  · subst e
    have hl : i < xs.length := by
      have := (List.getElem?_eq_some_iff.mp h).1
      simpa using this
    rw [List.getElem?_set_self hl] at h
    exact .inl ⟨rfl, Option.some.inj h⟩
  · rw [List.getElem?_set_ne e] at h
    exact .inr ⟨e, h⟩
theorem set_some {α : Type} {xs : List α} {i j : Nat} {x : α} (h : j < xs.length) : ∃ y, (xs.set i x)[j]? = some y ∧ ((i = j ∧ y = x) ∨ (i ≠ j ∧ xs[j]? = some y)) := by
  have h' : j < (xs.set i x).length := by rw [List.length_set]; exact h
  refine ⟨_, List.getElem?_eq_getElem h', ?_⟩
  rcases get_set (List.getElem?_eq_getElem h') with ⟨a, b⟩ | ⟨a, b⟩
  · exact .inl ⟨a, b.symm⟩
  · exact .inr ⟨a, b⟩
/-- a slot is stored -/
theorem Sd.set (S : Sd K B0 H0 B H σ δ) {i : Nat} {o : Option V} {x : SV} (h : SlotOk K B H H0 o x)
    (ap : ∀ a ∈ foot x o, ∀ j t q, i ≠ j → δ[j]? = some t → σ[j]? = some q → a ∉ foot t q) : Sd K B0 H0 B H (σ.set i o) (δ.set i x) := by
  refine ⟨S.hist, by rw [List.length_set, List.length_set]; exact S.len, fun j s e => ?_, fun j k s t o' q' n e1 e2 e3 e4 a ma mb => ?_⟩
  · have hj : j < σ.length := by
      have := (List.getElem?_eq_some_iff.mp e).1
      rw [List.length_set] at this
      rw [S.len]; exact this
    obtain ⟨y, hy, c⟩ := set_some (xs := σ) (i := i) (x := o) hj
    rcases get_set e with ⟨a, b⟩ | ⟨a, b⟩
    · subst b
      rcases c with ⟨_, c⟩ | ⟨c, _⟩
      · subst c; exact ⟨_, hy, h⟩
      · exact absurd a c
    · rcases c with ⟨c, _⟩ | ⟨_, c⟩
      · exact absurd c a
      · obtain ⟨o', q, w⟩ := S.ok j s b
        rw [q] at c; cases c
        exact ⟨_, hy, w⟩
  · rcases get_set e1 with ⟨z, b⟩ | ⟨z, b⟩
    · rcases get_set e2 with ⟨z', b'⟩ | ⟨z', b'⟩
      · exact n (z.symm.trans z')
      · rcases get_set e3 with ⟨_, d⟩ | ⟨c, d⟩
        · rcases get_set e4 with ⟨c', d'⟩ | ⟨_, d'⟩
          · exact z' c'
          · subst b; subst d
            exact ap a ma k t q' z' b' d' mb
        · exact absurd z c
    · rcases get_set e2 with ⟨z', b'⟩ | ⟨z', b'⟩
      · rcases get_set e4 with ⟨_, d⟩ | ⟨c, d⟩
        · rcases get_set e3 with ⟨c', d'⟩ | ⟨_, d'⟩
          · exact z c'
          · subst b'; subst d
            exact ap a mb j s o' z b d' ma
        · exact absurd z' c
      · rcases get_set e3 with ⟨c, d⟩ | ⟨_, d⟩
        · exact absurd c z
        · rcases get_set e4 with ⟨c', d'⟩ | ⟨_, d'⟩
          · exact absurd c' z'
          · exact S.apart j k s t o' q' n b b' d d' a ma mb
theorem Sd.setVal (S : Sd K B0 H0 B H σ δ) {i : Nat} {v : V} {d : D} (h : Dq K B v d) : Sd K B0 H0 B H (σ.set i (some v)) (δ.set i (.val d)) :=
  S.set ⟨v, rfl, h⟩ fun _ z => by cases z
/-- a slot is forgotten -/
theorem Sd.forget (S : Sd K B0 H0 B H σ δ) {i : Nat} {o : Option V} : Sd K B0 H0 B H (σ.set i o) (δ.set i .no) :=
  S.set True.intro fun _ z => by cases z
/-- a slot that has no more of its own than it had -/
theorem Apart.less (h : Apart σ δ) {i : Nat} {x y : SV} (e : δ[i]? = some y) (hs : ∀ o, σ[i]? = some o → ∀ a ∈ foot x o, a ∈ foot y o) : Apart σ (δ.set i x) := fun j k s t o q n e1 e2 e3 e4 a ma mb => by
  rcases get_set e1 with ⟨rfl, rfl⟩ | ⟨z, b⟩
  · rcases get_set e2 with ⟨z', _⟩ | ⟨z', b'⟩
    · exact n z'
    · exact h i k y t o q n e b' e3 e4 a (hs o e3 a ma) mb
  · rcases get_set e2 with ⟨rfl, rfl⟩ | ⟨z', b'⟩
    · exact h j i s y o q n b e e3 e4 a ma (hs q e4 a mb)
    · exact h j k s t o q n b b' e3 e4 a ma mb
/-- another past -/
theorem Sd.past {B1 : Hp} (S : Sd K B0 H0 B H σ δ) (h0 : Sam B0 B1) (h : Sam B1 B) : Sd K B1 H0 B H σ δ :=
  ⟨⟨h, S.hist.bh, S.hist.hh, fun a q z => S.hist.fr a q (h0.free z)⟩, S.len, S.ok, S.apart⟩
theorem Hist.back {B1 H1 : Hp} (S : Hist B1 H0 B H) (h0 : Hist B0 H0 B1 H1) : Hist B0 H0 B H :=
  ⟨h0.bb.trans S.bb, S.bh, S.hh, fun a q z => S.fr a q (h0.fr a q z)⟩
theorem Sd.back {B1 H1 : Hp} (S : Sd K B1 H0 B H σ δ) (h0 : Hist B0 H0 B1 H1) : Sd K B0 H0 B H σ δ :=
  ⟨S.hist.back h0, S.len, S.ok, S.apart⟩
end

section
variable {K : PySem.W.Frag} {B0 H0 B H B' H' : Hp} {σ : L2.St} {δ : List SV}
theorem new_apart {p : Addr} {i : Nat} (S : Sd K B0 H0 B H σ δ) (np : H p = none) (j : Nat) (s : SV) (q : Option V) (n : i ≠ j) (e : δ[j]? = some s) (eq : σ[j]? = some q) : p ∉ foot s q := fun m => by
  obtain ⟨o, eo, ok⟩ := S.ok j s e
  rw [eq] at eo; cases eo
  cases s with
  | no => cases m
  | val d => cases m
  | own x =>
    obtain ⟨p', u, rfl, hp, _⟩ := ok
    rw [List.mem_singleton.mp m] at np
    rw [np] at hp; cases hp
  | ob C fs =>
    obtain ⟨p', dx, ws, rfl, hp, _⟩ := ok
    rw [List.mem_singleton.mp m] at np
    rw [np] at hp; cases hp
  | big R F =>
    obtain ⟨v, rfl, _, _, ha⟩ := ok
    exact (ha p m).1 np
theorem new_foot {S : Sd K B0 H0 B H σ δ} {a : Addr} (na : H a = none) : ∀ (j : Nat) (t : SV) (q : Option V), δ[j]? = some t → σ[j]? = some q → a ∉ foot t q := fun j t q e1 e2 => new_apart S na (i := j + 1) j t q (by omega) e1 e2
theorem big_step {p : Addr} {o : Option V} {R : Hp → Hp → V → Prop} {F : List Addr} (ok : SlotOk K B H H0 o (.big R F)) (hp : p ∉ F) (hb : Sam B B') (hb2 : ∀ a, a ≠ p → B' a = B a) (hh : ∀ a, a ≠ p → H' a = H a) : SlotOk K B' H' H0 o (.big R F) := by
  obtain ⟨v, e, r, st, ha⟩ := ok
  have hne : ∀ a ∈ F, a ≠ p := fun a ma z => hp (z ▸ ma)
  refine ⟨v, e, st _ _ _ _ v r (fun w d z => Dq.up hb d w z) (fun a ma o eo _ => by rw [hh a (hne a ma)]; exact eo), st, fun a ma => ?_⟩
  rw [hb2 a (hne a ma), hh a (hne a ma)]
  exact ha a ma
theorem nt_lst {vs : List V} : NT (.lst vs) ∧ ∀ φ, HO.lst vs ≠ .ext φ := ⟨(fun _ z => nomatch z), (fun _ z => nomatch z)⟩
/-- an address that no slot owns is written -/
theorem Sd.updFree {L : Addr} {u : HO} (S : Sd K B0 H0 B H σ δ) (hb : B L = none) (h0 : H0 L = none) (hf : ∀ (j : Nat) (t : SV) (q : Option V), δ[j]? = some t → σ[j]? = some q → L ∉ foot t q) (hL : H L = none ∨ ∃ o, H L = some o ∧ NT o ∧ ∀ φ, o ≠ .ext φ) (hu : NT u) : Sd K B0 H0 B (upd H L u) σ δ := by
  refine ⟨⟨S.hist.bb, ⟨fun a o ea => ?_, S.hist.bh.tb.upd hL hu⟩, fun a o ea => ?_, S.hist.fr⟩, S.len, fun j s ej => ?_, S.apart⟩
  · have : a ≠ L := fun z => by subst z; rw [hb] at ea; cases ea
    rw [upd_ne this]; exact S.hist.bh.sm _ _ ea
  · have : a ≠ L := fun z => by subst z; rw [h0] at ea; cases ea
    rw [upd_ne this]; exact S.hist.hh _ _ ea
  · obtain ⟨o, eo, ok⟩ := S.ok j s ej
    have aw := hf j s o ej eo
    refine ⟨o, eo, ?_⟩
    cases s with
    | no => exact True.intro
    | val d => exact ok
    | ob C fs =>
      obtain ⟨pp, dx, ws, rfl, hp, r⟩ := ok
      have : pp ≠ L := fun z => aw (List.mem_singleton.mpr z.symm)
      exact ⟨pp, dx, ws, rfl, by rw [upd_ne this]; exact hp, r⟩
    | own xo =>
      obtain ⟨pp, vs, rfl, hp, r⟩ := ok
      have : pp ≠ L := fun z => aw (List.mem_singleton.mpr z.symm)
      exact ⟨pp, vs, rfl, by rw [upd_ne this]; exact hp, r⟩
    | big R F => exact big_step ok aw (Sam.refl _) (fun _ _ => rfl) (fun a z => upd_ne z)
theorem Stp.updNew {L : Addr} {u : HO} (s : Stp B H B' H') (n : H L = none) (hb : B' L = none) (hL : ∃ o, H' L = some o ∧ NT o ∧ ∀ φ, o ≠ .ext φ) (hu : NT u) : Stp B H B' (upd H' L u) := by
  refine ⟨s.bb, ⟨fun a o ea => ?_, s.bh.tb.upd (.inr hL) hu⟩, fun a o ea => ?_, s.fr⟩
  · have : a ≠ L := fun z => by subst z; rw [hb] at ea; cases ea
    rw [upd_ne this]; exact s.bh.sm _ _ ea
  · have : a ≠ L := fun z => by subst z; rw [n] at ea; cases ea
    rw [upd_ne this]; exact s.hh _ _ ea
end

/-! ### what an expression gives -/
section
variable (K : PySem.W.Frag)
def ED (te : TE) (δ : List SV) (d : D) : Prop := ∀ (B0 H0 B H : Hp) (σ : L2.St) (Q : VK), Sd K B0 H0 B H σ δ → (∀ v B' H', Stp B H B' H' → Dq K B' v d → Q v H') → te σ H Q
def ET (tt : TT) (δ : List SV) (b : Bool) : Prop := ∀ (B0 H0 B H : Hp) (σ : L2.St) (Q : Bool → Hp → Prop), Sd K B0 H0 B H σ δ → (∀ B' H', Stp B H B' H' → Q b H') → tt σ H Q
def EA (ta : TA) (δ : List SV) (ds : List D) : Prop := ∀ (B0 H0 B H : Hp) (σ : L2.St) (Q : List V → Hp → Prop), Sd K B0 H0 B H σ δ → (∀ vs B' H', Stp B H B' H' → DqAll K B' vs ds → Q vs H') → ta σ H Q
def EO (to : TO) (δ : List SV) (o : Option Int) : Prop := ∀ (B0 H0 B H : Hp) (σ : L2.St) (Q : Option Int → Hp → Prop), Sd K B0 H0 B H σ δ → (∀ B' H', Stp B H B' H' → Q o H') → to σ H Q
/-- a new list -/
def EN (te : TE) (δ : List SV) (ds : List D) : Prop := ∀ (B0 H0 B H : Hp) (σ : L2.St) (Q : VK), Sd K B0 H0 B H σ δ → (∀ p vs B' H', Stp B H B' H' → H p = none → B' p = none → H' p = some (.lst vs) → DqAll K B' vs ds → Q (.ref p) H') → te σ H Q
end
section
variable {K : PySem.W.Frag} {δ : List SV} {ta tb te : TE} {t u : TT} {d x y : D} {ds es : List D}
theorem EN.ed (h : EN K te δ ds) : ED K te δ (.list ds) := fun B0 H0 B H σ Q S q => h B0 H0 B H σ Q S fun p vs B' H' s hn hb hp a => by
  obtain ⟨k1, k2⟩ := Stp.know (o := .lst vs) s.bh hb hp
  refine q (.ref p) (upd B' p (.lst vs)) H' ⟨s.bb.trans k1, k2, s.hh, fun b q1 z => ?_⟩ (.lst (.inl (.inl upd_same)) (DqAll.up k1 _ _ a))
  have hbp : b ≠ p := fun e => by subst e; exact q1 hn
  rw [upd_ne hbp]
  exact s.fr b q1 z
theorem ed_var {i : Nat} (h : δ[i]? = some (.val d)) : ED K (tVar i) δ d := fun B0 H0 B H σ Q S q => by
  obtain ⟨v, a, b⟩ := S.slot h
  exact ⟨v, a, q v B H (.refl S.hist.bh) b⟩
inductive Sc : V → D → Prop
  | non : Sc .non .none
  | bl (b : Bool) : Sc (.bl b) (.bool b)
  | int (i : Int) : Sc (.int i) (.int i)
  | str (x : Str) : Sc (.str x) (.str x)
theorem Sc.dp {H : Hp} {v : V} : Sc v d → Dq K H v d
  | .non => .non
  | .bl b => .bl b
  | .int i => .int i
  | .str x => .str x
theorem ed_c {v : V} (h : Sc v d) : ED K (tC v) δ d := fun B0 H0 B H σ Q S q => q v B H (.refl S.hist.bh) h.dp
theorem ed_int {i : Int} : ED K (tC (.int i)) δ (.int i) := ed_c (.int i)
theorem ed_bl {b : Bool} : ED K (tC (.bl b)) δ (.bool b) := ed_c (.bl b)
theorem ed_non : ED K (tC .non) δ .none := ed_c .non
theorem ed_str {x : Str} : ED K (tC (.str x)) δ (.str x) := ed_c (.str x)
theorem ed_rI {C : Int → Int → Prop} {g : Int → Int → V} {i j : Int} (ha : ED K ta δ (.int i)) (hb : ED K tb δ (.int j)) (hc : C i j) (hg : Sc (g i j) d) : ED K (tOp (rI C g) ta tb) δ d := fun B0 H0 B H σ Q S q =>
  ha B0 H0 B H σ _ S fun v B1 H1 s1 a => hb B0 H0 B1 H1 σ _ (S.step s1) fun w B2 H2 s2 b => by
    cases Dq.int_inv a; cases Dq.int_inv b
    exact ⟨i, j, rfl, rfl, hc, q _ B2 H2 (s1.trans s2) hg.dp⟩
theorem ed_rI0 {g : Int → Int → V} {i j : Int} (ha : ED K ta δ (.int i)) (hb : ED K tb δ (.int j)) (hg : Sc (g i j) d) : ED K (tOp (rI0 g) ta tb) δ d := fun B0 H0 B H σ Q S q =>
  ha B0 H0 B H σ _ S fun v B1 H1 s1 a => hb B0 H0 B1 H1 σ _ (S.step s1) fun w B2 H2 s2 b => by
    cases Dq.int_inv a; cases Dq.int_inv b
    exact ⟨i, j, rfl, rfl, q _ B2 H2 (s1.trans s2) hg.dp⟩
theorem ed_rU {g : Int → V} {i : Int} (ha : ED K ta δ (.int i)) (hg : Sc (g i) d) : ED K (tUn (rU g) ta) δ d := fun B0 H0 B H σ Q S q =>
  ha B0 H0 B H σ _ S fun v B1 H1 s1 a => by
    cases Dq.int_inv a
    exact ⟨i, rfl, q _ B1 H1 s1 hg.dp⟩
theorem ed_eqD (ha : ED K ta δ x) (hb : ED K tb δ y) (sx : SeqAt.shaped x = true) (sy : SeqAt.shaped y = true) {b : Bool} (e : PyData.eqv x y = b) : ED K (tOp (rEqD K) ta tb) δ (.bool b) := fun B0 H0 B H σ Q S q =>
  ha B0 H0 B H σ _ S fun v B1 H1 s1 a => hb B0 H0 B1 H1 σ _ (S.step s1) fun w B2 H2 s2 c =>
    ⟨x, y, Dq.dp _ _ (Dq.up (s2.bb.trans s2.bh) _ _ a) (PySem.SeqAt.canLay_of_shaped sx), Dq.dp _ _ (Dq.up s2.bh _ _ c) (PySem.SeqAt.canLay_of_shaped sy), sx, sy, by rw [e]; exact q _ B2 H2 (s1.trans s2) (.bl b)⟩
theorem ed_neD (ha : ED K ta δ x) (hb : ED K tb δ y) (sx : SeqAt.shaped x = true) (sy : SeqAt.shaped y = true) {b : Bool} (e : (!PyData.eqv x y) = b) : ED K (tOp (rNeD K) ta tb) δ (.bool b) := fun B0 H0 B H σ Q S q =>
  ha B0 H0 B H σ _ S fun v B1 H1 s1 a => hb B0 H0 B1 H1 σ _ (S.step s1) fun w B2 H2 s2 c =>
    ⟨x, y, Dq.dp _ _ (Dq.up (s2.bb.trans s2.bh) _ _ a) (PySem.SeqAt.canLay_of_shaped sx), Dq.dp _ _ (Dq.up s2.bh _ _ c) (PySem.SeqAt.canLay_of_shaped sy), sx, sy, by rw [e]; exact q _ B2 H2 (s1.trans s2) (.bl b)⟩
/-- the item of data at an int -/
def itemD (x : D) (i : Int) : Option D := match x with
  | .list ds => atI ds i
  | .tuple ds => atI ds i
  | _ => none
theorem atI_dp {H : Hp} {vs : List V} {i : Int} (h : DqAll K H vs ds) (e : atI ds i = some d) : ∃ v, atI vs i = some v ∧ Dq K H v d := by
  unfold atI at e ⊢
  rw [h.len]
  cases q : ixN ds.length i with
  | none => rw [q] at e; cases e
  | some j =>
    rw [q] at e
    exact h.get e
theorem ed_ix {i : Int} (ha : ED K ta δ x) (hb : ED K tb δ (.int i)) (e : itemD x i = some d) : ED K (tOp (rIx K) ta tb) δ d := fun B0 H0 B H σ Q S q =>
  ha B0 H0 B H σ _ S fun v B1 H1 s1 a => hb B0 H0 B1 H1 σ _ (S.step s1) fun w B2 H2 s2 c => by
    cases Dq.int_inv c
    cases a with
    | lst hs hA =>
      obtain ⟨v, e1, e2⟩ := atI_dp hA e
      exact .inl ⟨_, _, i, v, rfl, rfl, (s2.bb.trans s2.bh).seq hs, e1, q v B2 H2 (s1.trans s2) (Dq.up s2.bb _ _ e2)⟩
    | tup hs hA =>
      obtain ⟨v, e1, e2⟩ := atI_dp hA e
      exact .inr (.inl ⟨_, _, i, v, rfl, rfl, sqT_up (s2.bb.trans s2.bh) hs, e1, q v B2 H2 (s1.trans s2) (Dq.up s2.bb _ _ e2)⟩)
    | _ => cases e
/-- an owned list's item -/
theorem ed_ixOwn {k : Nat} {i : Int} (ha : δ[k]? = some (.own (.l ds))) (hb : ED K tb δ (.int i)) (e : atI ds i = some d) : ED K (tOp (rIx K) (tVar k) tb) δ d := fun B0 H0 B H σ Q S q => by
  obtain ⟨p, vs, a1, _⟩ := S.slotOwn ha
  refine ⟨_, a1, hb B0 H0 B H σ _ S fun w B2 H2 s2 c => ?_⟩
  cases Dq.int_inv c
  obtain ⟨p', vs', b1, b2, b3, b4, b5⟩ := (S.step s2).slotOwn ha
  rw [a1] at b1; cases b1
  obtain ⟨v, e1, e2⟩ := atI_dp b5 e
  exact .inl ⟨_, _, i, v, rfl, rfl, .inl (.inl b2), e1, q v B2 H2 s2 e2⟩
theorem sz_small {n : Nat} (h : n ≤ 100000) : n ≤ sizeLine := Nat.le_trans h (by decide)
theorem ea_nil : EA K tNil δ [] := fun B0 H0 B H σ Q S q => q [] B H (.refl S.hist.bh) .nil
theorem ea_cons {tr : TA} (ha : ED K ta δ d) (hr : EA K tr δ ds) : EA K (tCons ta tr) δ (d :: ds) := fun B0 H0 B H σ Q S q =>
  ha B0 H0 B H σ _ S fun v B1 H1 s1 a => hr B0 H0 B1 H1 σ _ (S.step s1) fun vs B2 H2 s2 b => q _ B2 H2 (s1.trans s2) (.cons (Dq.up s2.bb _ _ a) b)
theorem ed_tup {ta : TA} (h : EA K ta δ ds) (hl : ds.length ≤ sizeLine) : ED K (tTup ta) δ (.tuple ds) := fun B0 H0 B H σ Q S q =>
  h B0 H0 B H σ _ S fun vs B1 H1 s1 a => ⟨by rw [a.len]; exact hl, fun p hp =>
    q (.ref p) (upd B1 p (.tup vs)) _ (s1.trans (.new s1.bh hp)) (.tup (.inl (.inl upd_same)) (DqAll.up (same_new (s1.bh.free hp)) _ _ a))⟩
theorem en_lst {ta : TA} (h : EA K ta δ ds) (hl : ds.length ≤ sizeLine) : EN K (tLst ta) δ ds := fun B0 H0 B H σ Q S q =>
  h B0 H0 B H σ _ S fun vs B1 H1 s1 a => ⟨by rw [a.len]; exact hl, fun p hp =>
    q p vs B1 _ (s1.trans (.newOwn s1.bh hp)) (s1.hh.free hp) (s1.bh.free hp) upd_same a⟩
/-- the promise of a def over data -/
def spD (K : PySem.W.Frag) (R : List D → D → Prop) : Sp := fun vs H Q _ => ∃ B ds d, R ds d ∧ Bh B H ∧ DqAll K B vs ds ∧ ∀ v B' H', Stp B H B' H' → Dq K B' v d → Q v H'
theorem ed_call {ta : TA} {R : List D → D → Prop} {E : XK} (h : EA K ta δ ds) (r : R ds d) : ED K (tCall (spD K R) [] E ta) δ d := fun B0 H0 B H σ Q S q =>
  h B0 H0 B H σ _ S fun vs B1 H1 s1 a => ⟨B1, ds, d, r, s1.bh, by rw [List.append_nil]; exact a, fun v B' H' s2 b => q v B' H' (s1.trans s2) b⟩
/-! ### tests -/
theorem et_test {b : Bool} (h : ED K te δ (.bool b)) : ET K (tTest te) δ b := fun B0 H0 B H σ Q S q =>
  h B0 H0 B H σ _ S fun v B1 H1 s1 a => by
    cases Dq.bool_inv a
    exact ⟨b, rfl, q B1 H1 s1⟩
theorem et_B {b : Bool} (h : ED K te δ (.bool b)) : ET K (tB te) δ b := fun B0 H0 B H σ Q S q =>
  h B0 H0 B H σ _ S fun v B1 H1 s1 a => by
    cases Dq.bool_inv a
    exact ⟨b, rfl, q B1 H1 s1⟩
theorem et_and {a b : Bool} (h1 : ET K t δ a) (h2 : a = true → ET K u δ b) : ET K (tAnd t u) δ (a && b) := fun B0 H0 B H σ Q S q => h1 B0 H0 B H σ _ S fun B1 H1 s1 => by
  cases a with
  | true => exact iteT (h2 rfl B0 H0 B1 H1 σ _ (S.step s1) fun B2 H2 s2 => q B2 H2 (s1.trans s2))
  | false => exact iteF (q B1 H1 s1)
theorem et_or {a b : Bool} (h1 : ET K t δ a) (h2 : a = false → ET K u δ b) : ET K (tOr t u) δ (a || b) := fun B0 H0 B H σ Q S q => h1 B0 H0 B H σ _ S fun B1 H1 s1 => by
  cases a with
  | false => exact iteF (h2 rfl B0 H0 B1 H1 σ _ (S.step s1) fun B2 H2 s2 => q B2 H2 (s1.trans s2))
  | true => exact iteT (q B1 H1 s1)
theorem et_not {a : Bool} (h1 : ET K t δ a) : ET K (tNot t) δ (!a) := fun B0 H0 B H σ Q S q => h1 B0 H0 B H σ _ S fun B1 H1 s1 => q B1 H1 s1
theorem ed_andV {a b : Bool} (h1 : ED K ta δ (.bool a)) (h2 : a = true → ED K tb δ (.bool b)) : ED K (tAndV ta tb) δ (.bool (a && b)) := fun B0 H0 B H σ Q S q => h1 B0 H0 B H σ _ S fun v B1 H1 s1 c => by
  cases Dq.bool_inv c
  refine ⟨a, rfl, ?_⟩
  cases a with
  | true => exact iteT (h2 rfl B0 H0 B1 H1 σ _ (S.step s1) fun w B2 H2 s2 => q w B2 H2 (s1.trans s2))
  | false => exact iteF (q _ B1 H1 s1 (.bl false))
theorem ed_orV {a b : Bool} (h1 : ED K ta δ (.bool a)) (h2 : a = false → ED K tb δ (.bool b)) : ED K (tOrV ta tb) δ (.bool (a || b)) := fun B0 H0 B H σ Q S q => h1 B0 H0 B H σ _ S fun v B1 H1 s1 c => by
  cases Dq.bool_inv c
  refine ⟨a, rfl, ?_⟩
  cases a with
  | false => exact iteF (h2 rfl B0 H0 B1 H1 σ _ (S.step s1) fun w B2 H2 s2 => q w B2 H2 (s1.trans s2))
  | true => exact iteT (q _ B1 H1 s1 (.bl true))
theorem ed_notV {a : Bool} (h1 : ED K ta δ (.bool a)) : ED K (tNotV ta) δ (.bool (!a)) := fun B0 H0 B H σ Q S q => h1 B0 H0 B H σ _ S fun v B1 H1 s1 c => by
  cases Dq.bool_inv c
  exact ⟨a, rfl, q _ B1 H1 s1 (.bl _)⟩
theorem ed_if {b : Bool} (h : ET K t δ b) (h1 : b = true → ED K ta δ d) (h2 : b = false → ED K tb δ d) : ED K (tIf t ta tb) δ d := fun B0 H0 B H σ Q S q => h B0 H0 B H σ _ S fun B1 H1 s1 => by
  cases b with
  | true => exact iteT (h1 rfl B0 H0 B1 H1 σ _ (S.step s1) fun w B2 H2 s2 => q w B2 H2 (s1.trans s2))
  | false => exact iteF (h2 rfl B0 H0 B1 H1 σ _ (S.step s1) fun w B2 H2 s2 => q w B2 H2 (s1.trans s2))
end
end DX

namespace DX
open PySem L2
variable [TabEnv]

/-! ### built-in calls, by name -/
def rAbsQ : List V → Hp → VK → Prop := fun xs H Q => ∃ i, xs = [.int i] ∧ Q (.int (if i < 0 then -i else i)) H
def rMax2Q : List V → Hp → VK → Prop := fun xs H Q => ∃ i j, xs = [.int i, .int j] ∧ Q (.int (if j > i then j else i)) H
def rMin2Q : List V → Hp → VK → Prop := fun xs H Q => ∃ i j, xs = [.int i, .int j] ∧ Q (.int (if j < i then j else i)) H
def rIntQ : List V → Hp → VK → Prop := fun xs H Q => (∃ i, xs = [.int i] ∧ Q (.int i) H) ∨ ∃ k, xs = [.bl k] ∧ Q (.int (if k then 1 else 0)) H
def rListQ (K : PySem.W.Frag) : List V → Hp → VK → Prop := fun xs H Q => ∃ p ys, xs = [.ref p] ∧ (SqL K H p ys ∨ SqT K H p ys) ∧ ∀ l, H l = none → Q (.ref l) (upd H l (.lst ys))
def rTupleQ (K : PySem.W.Frag) : List V → Hp → VK → Prop := fun xs H Q => ∃ p ys, xs = [.ref p] ∧ ((SqL K H p ys ∧ ∀ l, H l = none → Q (.ref l) (upd H l (.tup ys))) ∨ (SqT K H p ys ∧ Q (.ref p) H))
def rLenQ (K : PySem.W.Frag) : List V → Hp → VK → Prop := fun xs H Q => ∃ p ys, xs = [.ref p] ∧ (SqL K H p ys ∨ SqT K H p ys) ∧ Q (.int ys.length) H
section
variable {X : Cx}
theorem cr_lenQ : CallR X (.builtin "len") (rLenQ X.K) := call_len_seq
theorem cr_absQ : CallR X (.builtin "abs") rAbsQ := call_abs
theorem cr_max2 (hc : X.calm = true) : CallR X (.builtin "max") rMax2Q := call_max2 hc
theorem cr_min2 (hc : X.calm = true) : CallR X (.builtin "min") rMin2Q := call_min2 hc
theorem cr_intQ : CallR X (.type "int") rIntQ := call_int1
theorem cr_listQ : CallR X (.type "list") (rListQ X.K) := call_list_of
theorem cr_tupleQ : CallR X (.type "tuple") (rTupleQ X.K) := call_tuple_of
end
def CMulX (i j : Int) : Prop := CMul i j ∨ CMulW i j
section
variable {X : Cx}
theorem op_mulX : OpR X (binaryOp .Mult) (rI CMulX fun i j => .int (i * j)) := opI fun _ _ _ _ _ _ _ hc q => PyProof.Rows.mul_int q (hc.elim (·.ok) (·.ok))
end
/-! ### operators of any size -/
def CDivX (_ j : Int) : Prop := j ≠ 0 ∧ j.natAbs.log2 < 9000
section
variable {X : Cx}
theorem op_fdivX : OpR X (binaryOp .FloorDiv) (rI CDivX fun i j => .int (i.fdiv j)) := opI fun i j _ _ _ _ _ hc q =>
  PyProof.Rows.floordiv_int hc.1 q (.inl (PyProof.noPylong_of_log2 hc.2))
end

section
variable {K : PySem.W.Frag} {δ : List SV} {ta tb te : TE} {t u : TT} {d x y : D} {ds es : List D}
/-! ### built-in calls -/
theorem ed_cb {r : List V → Hp → VK → Prop} {ta : TA} (h : EA K ta δ ds) (hr : ∀ B H vs (Q : VK), Bh B H → DqAll K B vs ds → (∀ v B' H', Stp B H B' H' → Dq K B' v d → Q v H') → r vs H Q) : ED K (tCB r ta) δ d := fun B0 H0 B H σ Q S q =>
  h B0 H0 B H σ _ S fun vs B1 H1 s1 a => hr B1 H1 vs Q s1.bh a fun v B' H' s2 b => q v B' H' (s1.trans s2) b
theorem en_cb {r : List V → Hp → VK → Prop} {ta : TA} (h : EA K ta δ ds) (hr : ∀ B H vs (Q : VK), Bh B H → DqAll K B vs ds → (∀ p ws, H p = none → DqAll K B ws es → Q (.ref p) (upd H p (.lst ws))) → r vs H Q) : EN K (tCB r ta) δ es := fun B0 H0 B H σ Q S q =>
  h B0 H0 B H σ _ S fun vs B1 H1 s1 a => hr B1 H1 vs Q s1.bh a fun p ws np b => q p ws B1 _ (s1.trans (.newOwn s1.bh np)) (s1.hh.free np) (s1.bh.free np) upd_same b
theorem _root_.L2.DqAll.one {B : Hp} {vs : List V} (h : DqAll K B vs [d]) : ∃ v, vs = [v] ∧ Dq K B v d := by
  cases h with
  | cons h1 h2 => cases h2; exact ⟨_, rfl, h1⟩
theorem _root_.L2.DqAll.two {B : Hp} {vs : List V} (h : DqAll K B vs [x, y]) : ∃ v w, vs = [v, w] ∧ Dq K B v x ∧ Dq K B w y := by
  cases h with
  | cons h1 h2 => cases h2 with
    | cons h2 h3 => cases h3; exact ⟨_, _, rfl, h1, h2⟩
/-- len of list or tuple data -/
def lenD : D → Option Nat
  | .list ds => some ds.length
  | .tuple ds => some ds.length
  | _ => none
def rLenQ0 (K : PySem.W.Frag) : List V → Hp → VK → Prop := fun xs H Q => ∃ p ys, xs = [.ref p] ∧ (SqL K H p ys ∨ SqT K H p ys) ∧ Q (.int ys.length) H
theorem ed_len {n : Nat} (h : ED K te δ x) (e : lenD x = some n) : ED K (tCB (rLenQ K) (tCons te tNil)) δ (.int n) :=
  ed_cb (ea_cons h ea_nil) fun B H vs Q bh a q => by
    obtain ⟨v, rfl, b⟩ := a.one
    cases b with
    | lst hs hA =>
      cases e
      exact ⟨_, _, rfl, .inl (bh.seq hs), q _ B H (.refl bh) (by rw [hA.len]; exact .int _)⟩
    | tup hs hA =>
      cases e
      exact ⟨_, _, rfl, .inr (sqT_up bh hs), q _ B H (.refl bh) (by rw [hA.len]; exact .int _)⟩
    | _ => cases e
theorem ed_lenOwn {k : Nat} (e : δ[k]? = some (.own (.l ds))) : ED K (tCB (rLenQ K) (tCons (tVar k) tNil)) δ (.int ds.length) := fun B0 H0 B H σ Q S q => by
  obtain ⟨p, vs, a, b, c, c', d⟩ := S.slotOwn e
  exact ⟨_, a, p, vs, rfl, .inl (.inl (.inl b)), q _ B H (.refl S.hist.bh) (by rw [d.len]; exact .int _)⟩
theorem ed_abs {i : Int} (h : ED K te δ (.int i)) : ED K (tCB rAbsQ (tCons te tNil)) δ (.int i.natAbs) :=
  ed_cb (ea_cons h ea_nil) fun B H vs Q bh a q => by
    obtain ⟨v, rfl, b⟩ := a.one
    cases Dq.int_inv b
    refine ⟨i, rfl, q _ B H (.refl bh) ?_⟩
    have e : (if i < 0 then -i else i) = (i.natAbs : Int) := by split <;> omega
    rw [e]; exact .int _
theorem ed_max2 {i j : Int} (h : ED K ta δ (.int i)) (h' : ED K tb δ (.int j)) : ED K (tCB rMax2Q (tCons ta (tCons tb tNil))) δ (.int (max i j)) :=
  ed_cb (ea_cons h (ea_cons h' ea_nil)) fun B H vs Q bh a q => by
    obtain ⟨v, w, rfl, b, c⟩ := a.two
    cases Dq.int_inv b; cases Dq.int_inv c
    refine ⟨i, j, rfl, q _ B H (.refl bh) ?_⟩
    have e : (if j > i then j else i) = max i j := by split <;> omega
    rw [e]; exact .int _
theorem ed_min2 {i j : Int} (h : ED K ta δ (.int i)) (h' : ED K tb δ (.int j)) : ED K (tCB rMin2Q (tCons ta (tCons tb tNil))) δ (.int (min i j)) :=
  ed_cb (ea_cons h (ea_cons h' ea_nil)) fun B H vs Q bh a q => by
    obtain ⟨v, w, rfl, b, c⟩ := a.two
    cases Dq.int_inv b; cases Dq.int_inv c
    refine ⟨i, j, rfl, q _ B H (.refl bh) ?_⟩
    have e : (if j < i then j else i) = min i j := by split <;> omega
    rw [e]; exact .int _
/-- int(n), int(flag) -/
def intD : D → Option Int
  | .int i => some i
  | .bool b => some (if b then 1 else 0)
  | _ => none
theorem ed_int1 {i : Int} (h : ED K te δ x) (e : intD x = some i) : ED K (tCB rIntQ (tCons te tNil)) δ (.int i) :=
  ed_cb (ea_cons h ea_nil) fun B H vs Q bh a q => by
    obtain ⟨v, rfl, b⟩ := a.one
    cases b with
    | int j => cases e; exact .inl ⟨_, rfl, q _ B H (.refl bh) (.int _)⟩
    | bl c => cases e; exact .inr ⟨_, rfl, q _ B H (.refl bh) (.int _)⟩
    | _ => cases e
theorem ed_gcd {i j : Int} (h : ED K ta δ (.int i)) (h' : ED K tb δ (.int j)) : ED K (tCB rGcd (tCons ta (tCons tb tNil))) δ (.int (Nat.gcd i.natAbs j.natAbs : Nat)) :=
  ed_cb (ea_cons h (ea_cons h' ea_nil)) fun B H vs Q bh a q => by
    obtain ⟨v, w, rfl, b, c⟩ := a.two
    cases Dq.int_inv b; cases Dq.int_inv c
    exact ⟨i, j, rfl, q _ B H (.refl bh) (.int _)⟩
end
/-- math.lcm of two ints -/
def rLcm : List V → Hp → VK → Prop := fun vs H Q => ∃ a b : Int, vs = [.int a, .int b] ∧ (a.natAbs < 2 ^ 13000 ∧ b.natAbs < 2 ^ 13000) ∧ Q (.int ((Nat.lcm a.natAbs b.natAbs : Nat) : Int)) H
theorem lcm_le (a b : Nat) : Nat.lcm a b ≤ a * b := by
  unfold Nat.lcm
  exact Nat.div_le_self _ _
theorem lt_of_log {n k : Nat} (h : n < 2 ^ k) (h0 : 0 < k) : n.log2 < k := PySem.Flt.log2_lt_of h0 (by simpa using h)
theorem cr_lcm {X : Cx} : CallR X (.builtin "math.lcm") rLcm := by
  intro pins s σ H vs us Q I r h
  obtain ⟨a, b, rfl, ⟨ha, hb⟩, q⟩ := h
  obtain ⟨t, u, rfl⟩ := Vals.int2 r
  have e1 : (Nat.lcm 1 a.natAbs).lcm b.natAbs = Nat.lcm a.natAbs b.natAbs := by rw [Nat.lcm_one_left]
  have h1 : (max 1 a.natAbs).log2 < 13000 := lt_of_log (by have := Nat.one_lt_two_pow (n := 13000) (by decide); omega) (by decide)
  have h2 : (max a.natAbs b.natAbs).log2 < 13000 := lt_of_log (by omega) (by decide)
  have h3 : (((Nat.lcm 1 a.natAbs).lcm b.natAbs : Nat) : Int).natAbs < 2 ^ 26000 := by
    rw [e1]
    show Nat.lcm a.natAbs b.natAbs < 2 ^ 26000
    refine Nat.lt_of_le_of_lt (lcm_le _ _) ?_
    rw [show (26000 : Nat) = 13000 + 13000 from rfl, Nat.pow_add]
    exact Nat.mul_lt_mul'' ha hb
  have h4 : (((Nat.lcm 1 a.natAbs).lcm b.natAbs : Nat) : Int).natAbs.log2 < bitsLine := Nat.lt_of_lt_of_le (lt_of_log h3 (by decide)) (by decide)
  refine PySem.call_function_meets PySem.W.MGF.kind_lcm PySem.W.MGF.plain_lcm PySem.W.MGF.entry_lcm (PySem.W.MGF.args_lcm _ _) (PySem.W.mg_run_lcm a t b u (by omega) (by omega) h4).meets ?_
  rw [e1]
  exact ⟨.int _, H, I.tok _, ⟨_, rfl⟩, q⟩
section
variable {K : PySem.W.Frag} {δ : List SV} {ta tb te : TE} {t u : TT} {d x y : D} {ds es : List D}
theorem ed_lcm {i j : Int} (h : ED K ta δ (.int i)) (h' : ED K tb δ (.int j)) (hi : i.natAbs < 2 ^ 13000) (hj : j.natAbs < 2 ^ 13000) : ED K (tCB rLcm (tCons ta (tCons tb tNil))) δ (.int (Nat.lcm i.natAbs j.natAbs : Nat)) :=
  ed_cb (ea_cons h (ea_cons h' ea_nil)) fun B H vs Q bh a q => by
    obtain ⟨v, w, rfl, b, c⟩ := a.two
    cases Dq.int_inv b; cases Dq.int_inv c
    exact ⟨i, j, rfl, ⟨hi, hj⟩, q _ B H (.refl bh) (.int _)⟩
/-- the items of list or tuple data -/
def itemsD : D → Option (List D)
  | .list ds => some ds
  | .tuple ds => some ds
  | _ => none
theorem en_list (h : ED K te δ x) (e : itemsD x = some ds) : EN K (tCB (rListQ K) (tCons te tNil)) δ ds :=
  en_cb (ea_cons h ea_nil) fun B H vs Q bh a q => by
    obtain ⟨v, rfl, b⟩ := a.one
    cases b with
    | lst hs hA => cases e; exact ⟨_, _, rfl, .inl (bh.seq hs), fun l hl => q l _ hl hA⟩
    | tup hs hA => cases e; exact ⟨_, _, rfl, .inr (sqT_up bh hs), fun l hl => q l _ hl hA⟩
    | _ => cases e
theorem en_listOwn {k : Nat} (e : δ[k]? = some (.own (.l ds))) : EN K (tCB (rListQ K) (tCons (tVar k) tNil)) δ ds := fun B0 H0 B H σ Q S q => by
  obtain ⟨p, vs, a, b, c, c', d⟩ := S.slotOwn e
  exact ⟨_, a, p, vs, rfl, .inl (.inl (.inl b)), fun l hl => q l _ B _ (.newOwn S.hist.bh hl) hl (S.hist.bh.free hl) upd_same d⟩
/-- tuple(x) -/
theorem ed_tupleOf (h : ED K te δ x) (e : itemsD x = some ds) : ED K (tCB (rTupleQ K) (tCons te tNil)) δ (.tuple ds) :=
  ed_cb (ea_cons h ea_nil) fun B H vs Q bh a q => by
    obtain ⟨v, rfl, b⟩ := a.one
    cases b with
    | lst hs hA =>
      cases e
      exact ⟨_, _, rfl, .inl ⟨bh.seq hs, fun l hl => q _ (upd B l _) _ (.new bh hl) (.tup (.inl (.inl upd_same)) (DqAll.up (same_new (bh.free hl)) _ _ hA))⟩⟩
    | tup hs hA => cases e; exact ⟨_, _, rfl, .inr ⟨sqT_up bh hs, q _ B H (.refl bh) (.tup hs hA)⟩⟩
    | _ => cases e
/-- sum of ints, all and any of bools -/
theorem ed_sum {ns : List Int} (h : ED K te δ (.list (ns.map PyData.int))) : ED K (tCB (rSum K) (tCons te tNil)) δ (.int ns.sum) :=
  ed_cb (ea_cons h ea_nil) fun B H vs Q bh a q => by
    obtain ⟨v, rfl, b⟩ := a.one
    cases b with
    | lst hs hA => cases hA.ints; exact ⟨_, ns, rfl, bh.seq hs, q _ B H (.refl bh) (.int _)⟩
theorem ed_all {bs : List Bool} (h : ED K te δ (.list (bs.map PyData.bool))) : ED K (tCB (rAll K) (tCons te tNil)) δ (.bool (bs.all id)) :=
  ed_cb (ea_cons h ea_nil) fun B H vs Q bh a q => by
    obtain ⟨v, rfl, b⟩ := a.one
    cases b with
    | lst hs hA => cases hA.bools; exact ⟨_, bs, rfl, bh.seq hs, q _ B H (.refl bh) (.bl _)⟩
theorem ed_any {bs : List Bool} (h : ED K te δ (.list (bs.map PyData.bool))) : ED K (tCB (rAny K) (tCons te tNil)) δ (.bool (bs.any id)) :=
  ed_cb (ea_cons h ea_nil) fun B H vs Q bh a q => by
    obtain ⟨v, rfl, b⟩ := a.one
    cases b with
    | lst hs hA => cases hA.bools; exact ⟨_, bs, rfl, bh.seq hs, q _ B H (.refl bh) (.bl _)⟩
/-- isinstance of data, a built-in class -/
def tyName : D → String
  | .none => "NoneType"
  | .bool _ => "bool"
  | .int _ => "int"
  | .str _ => "str"
  | .list _ => "list"
  | .tuple _ => "tuple"
  | .dict _ => "dict"
theorem tyx_of {B H : Hp} {v : V} (bh : Bh B H) (h : Dq K B v d) : TyX K H v (.type (tyName d)) := by
  cases h with
  | non => exact .base .non
  | bl b => exact .base (.bl b)
  | int i => exact .base (.int i)
  | str x => exact .base (.str x)
  | lst hs _ =>
    rcases hs with (h | ⟨o, h⟩) | ⟨o, its, n, h1, h2, _⟩
    · exact .base (.lst (bh.at h))
    · exact .base (.frz (bh.at h))
    · exact .kList h1 h2
  | tup hs _ =>
    rcases hs with (h | ⟨o, h⟩) | ⟨o, its, n, h1, h2, _⟩
    · exact .base (.tup (bh.at h))
    · exact .fTuple (bh.at h)
    · exact .kTuple h1 h2
  | dct hs _ =>
    rcases hs with h | ⟨o, h⟩
    · exact .base (.dK (bh.at h))
    · exact .fDict (bh.at h)
theorem ed_isi {n : String} {b : Bool} (h : ED K te δ d) (e : kitB (tyName d) n = some b) : ED K (tCB (rIsi K) (tCons te (tCons (tC (.ty n)) tNil))) δ (.bool b) := fun B0 H0 B H σ Q S q =>
  h B0 H0 B H σ _ S fun v B1 H1 s1 a => ⟨v, .ty n, _, _, b, rfl, .ty n, tyx_of s1.bh a, kit_ty e, q _ B1 H1 s1 (.bl b)⟩
/-! ### new lists -/
theorem en_cat (ha : EN K ta δ ds) (hb : EN K tb δ es) (hl : ds.length + es.length ≤ sizeLine) : EN K (tOp rCat ta tb) δ (ds ++ es) := fun B0 H0 B H σ Q S q =>
  ha B0 H0 B H σ _ S fun p vs B1 H1 s1 n1 b1 e1 a1 => hb B0 H0 B1 H1 σ _ (S.step s1) fun p2 ws B2 H2 s2 n2 b2 e2 a2 =>
    ⟨p, p2, vs, ws, rfl, rfl, s2.hh.at e1, e2, by rw [a1.len, a2.len]; exact hl, fun l hl => q l _ B2 _ ((s1.trans s2).trans (.newOwn s2.bh hl)) ((s1.trans s2).hh.free hl) (s2.bh.free hl) upd_same ((DqAll.up s2.bb _ _ a1).app a2)⟩
theorem dqall_rep {B : Hp} {vs : List V} (h : DqAll K B vs ds) : ∀ n : Nat, DqAll K B (List.replicate n vs).flatten (List.replicate n ds).flatten
  | 0 => .nil
  | n + 1 => by
    rw [List.replicate_succ, List.replicate_succ, List.flatten_cons, List.flatten_cons]
    exact h.app (dqall_rep h n)
theorem en_rep {k : Int} (ha : EN K ta δ ds) (hb : ED K tb δ (.int k)) (h1 : -(2 ^ 63) ≤ k ∧ k < 2 ^ 63) (hl : ds.length * k.toNat ≤ sizeLine) : EN K (tOp rRep ta tb) δ (List.replicate k.toNat ds).flatten := fun B0 H0 B H σ Q S q =>
  ha B0 H0 B H σ _ S fun p vs B1 H1 s1 n1 b1 e1 a1 => hb B0 H0 B1 H1 σ _ (S.step s1) fun w B2 H2 s2 c => by
    cases Dq.int_inv c
    exact ⟨p, k, vs, rfl, rfl, s2.hh.at e1, h1.1, h1.2, by rw [a1.len]; exact hl, fun l hl => q l _ B2 _ ((s1.trans s2).trans (.newOwn s2.bh hl)) ((s1.trans s2).hh.free hl) (s2.bh.free hl) upd_same (dqall_rep (DqAll.up s2.bb _ _ a1) _)⟩
theorem dqall_rev {B : Hp} : ∀ {ds : List D} {vs : List V}, DqAll K B vs ds → DqAll K B vs.reverse ds.reverse
  | [], _, h => by cases h; exact .nil
  | d :: ds, _, h => by
    cases h with
    | cons h1 h2 =>
      rw [List.reverse_cons, List.reverse_cons]
      exact (dqall_rev h2).app (.cons h1 .nil)
/-- xs[a:b] of a list -/
def cutD (ds : List D) (lo hi : Option Int) : List D := (ds.drop (HT.sIx ds.length 0 lo)).take (HT.sIx ds.length ds.length hi - HT.sIx ds.length 0 lo)
theorem eo_none : EO K tNoPart δ none := fun B0 H0 B H σ Q S q => q B H (.refl S.hist.bh)
theorem eo_some {i : Int} (h : ED K te δ (.int i)) : EO K (tPart te) δ (some i) := fun B0 H0 B H σ Q S q => h B0 H0 B H σ _ S fun v B1 H1 s1 a => by
  cases Dq.int_inv a
  exact ⟨i, rfl, q B1 H1 s1⟩
theorem en_slice {tl th : TO} {lo hi : Option Int} (h : ED K te δ (.list ds)) (h1 : EO K tl δ lo) (h2 : EO K th δ hi) : EN K (tSl (rSlL K) te tl th) δ (cutD ds lo hi) := fun B0 H0 B H σ Q S q =>
  h B0 H0 B H σ _ S fun v B1 H1 s1 a => h1 B0 H0 B1 H1 σ _ (S.step s1) fun B2 H2 s2 => h2 B0 H0 B2 H2 σ _ ((S.step s1).step s2) fun B3 H3 s3 => by
    cases a with
    | lst hs hA =>
      have st := (s1.trans s2).trans s3
      refine ⟨_, _, rfl, ((s2.trans s3).bb.trans s3.bh).seq hs, fun p hp => q p _ B3 _ (st.trans (.newOwn s3.bh hp)) (st.hh.free hp) (s3.bh.free hp) upd_same ?_⟩
      unfold cutV cutD
      rw [hA.len]
      exact (DqAll.up (s2.trans s3).bb _ _ hA).drop _ |>.take _

/-! ### what is walked -/
/-- from B1 on the walk yields ds -/
def YD (K : PySem.W.Frag) (J : It) (B1 : Hp) (ds : List D) : Prop := ∀ (B H : Hp) (i : Nat), Sam B1 B → Bh B H →
  (i < ds.length → J.go i H ∧ ∀ x H', J.yld i H x H' → ∃ B' d, Stp B H B' H' ∧ ds[i]? = some d ∧ Dq K B' x d) ∧ (i = ds.length → J.stop i H)
def EI (K : PySem.W.Frag) (wi : TI) (δ : List SV) (ds : List D) : Prop := ∀ (B0 H0 B H : Hp) (σ : L2.St) (R : It → Hp → Prop), Sd K B0 H0 B H σ δ → (∀ J B1 H1, Stp B H B1 H1 → YD K J B1 ds → R J H1) → wi σ H R
theorem ei_list (h : ED K te δ (.list ds)) : EI K (iList K te) δ ds := fun B0 H0 B H σ R S q => h B0 H0 B H σ _ S fun v B1 H1 s1 a => by
  cases a with
  | lst hs hA =>
    refine ⟨_, rfl, ⟨_, s1.bh.seq hs⟩, q _ B1 H1 s1 fun B H i e1 e2 => ⟨fun hi => ?_, fun hi => ?_⟩⟩
    · obtain ⟨v, g1, g2⟩ := hA.get (List.getElem?_eq_getElem hi)
      refine ⟨⟨_, v, (e1.trans e2).seq hs, g1⟩, fun x H' y => ?_⟩
      obtain ⟨rfl, y⟩ := y
      have ex := (y _ ((e1.trans e2).seq hs)).symm.trans g1
      cases ex
      exact ⟨B, _, .refl e2, List.getElem?_eq_getElem hi, Dq.up e1 _ _ g2⟩
    · exact ⟨_, (e1.trans e2).seq hs, by rw [hA.len, hi]; exact Nat.le_refl _⟩
theorem ei_tup (h : ED K te δ (.tuple ds)) : EI K (iTup K te) δ ds := fun B0 H0 B H σ R S q => h B0 H0 B H σ _ S fun v B1 H1 s1 a => by
  cases a with
  | tup hs hA =>
    refine ⟨_, rfl, ⟨_, sqT_up s1.bh hs⟩, q _ B1 H1 s1 fun B H i e1 e2 => ⟨fun hi => ?_, fun hi => ?_⟩⟩
    · obtain ⟨v, g1, g2⟩ := hA.get (List.getElem?_eq_getElem hi)
      refine ⟨⟨_, v, sqT_up (e1.trans e2) hs, g1⟩, fun x H' y => ?_⟩
      obtain ⟨rfl, y⟩ := y
      have ex := (y _ (sqT_up (e1.trans e2) hs)).symm.trans g1
      cases ex
      exact ⟨B, _, .refl e2, List.getElem?_eq_getElem hi, Dq.up e1 _ _ g2⟩
    · exact ⟨_, sqT_up (e1.trans e2) hs, by rw [hA.len, hi]; exact Nat.le_refl _⟩
/-- 0, 1, .. below n -/
def rngD (lo : Int) (n : Nat) : List D := (List.range n).map fun k => PyData.int (lo + (k : Nat))
theorem yd_rng {lo : Int} {n : Nat} {B1 : Hp} : YD K (Itr lo n) B1 (rngD lo n) := fun B H i e1 e2 => by
  have hl : (rngD lo n).length = n := by unfold rngD; simp
  refine ⟨fun hi => ⟨by rw [hl] at hi; exact hi, fun x H' y => ?_⟩, fun hi => by rw [hl] at hi; show n ≤ i; omega⟩
  obtain ⟨rfl, rfl⟩ := y
  rw [hl] at hi
  refine ⟨B, .int (lo + i), .refl e2, ?_, .int _⟩
  unfold rngD
  simp [hi]
theorem ei_rng1 {n : Int} (h : ED K te δ (.int n)) (hn : -(2 ^ 62) ≤ n ∧ n < 2 ^ 62) : EI K (iRng1 (tCons te tNil)) δ (rngD 0 n.toNat) := fun B0 H0 B H σ R S q => h B0 H0 B H σ _ S fun v B1 H1 s1 a => by
  cases Dq.int_inv a
  exact ⟨n, rfl, hn.1, hn.2, q _ B1 H1 s1 yd_rng⟩
theorem ei_rng2 {m n : Int} (h : ED K ta δ (.int m)) (h' : ED K tb δ (.int n)) (hn : -(2 ^ 62) ≤ m ∧ m < 2 ^ 62 ∧ -(2 ^ 62) ≤ n ∧ n < 2 ^ 62) : EI K (iRng2 (tCons ta (tCons tb tNil))) δ (rngD m (n - m).toNat) := fun B0 H0 B H σ R S q =>
  h B0 H0 B H σ _ S fun v B1 H1 s1 a => h' B0 H0 B1 H1 σ _ (S.step s1) fun w B2 H2 s2 b => by
  cases Dq.int_inv a; cases Dq.int_inv b
  exact ⟨m, n, rfl, hn, q _ B2 H2 (s1.trans s2) yd_rng⟩

/-! ### comprehensions -/
theorem wipe_gName {σ : L2.St} {i : Nat} {x : Option V} : wipe ((wipe σ [i]).set i x) [i] = wipe σ [i] := by
  show (((σ.set i none).set i x).set i none) = σ.set i none
  rw [List.set_set, List.set_set]
theorem map_take_succ {α β : Type} {f : α → β} {p : α → Bool} {xs : List α} {i : Nat} {x : α} (h : xs[i]? = some x) : ((xs.take (i + 1)).filter p).map f = ((xs.take i).filter p).map f ++ (if p x then [f x] else []) := by
  rw [List.take_add_one, h, List.filter_append, List.map_append]
  cases e : p x <;> simp [e]
theorem en_lcG {α : Type} {xs : List α} {g : α → D} {wi : TI} {tt : TT} {i : Nat} {p : α → Bool} {f : α → D} (hw : EI K wi δ (xs.map g)) (hl : xs.length ≤ sizeLine)
    (ht : ∀ x, x ∈ xs → ET K tt ((δ.set i .no).set i (.val (g x))) (p x)) (he : ∀ x, x ∈ xs → p x = true → ED K te ((δ.set i .no).set i (.val (g x))) (f x)) : EN K (tLc wi (gName i) tt te [i]) δ ((xs.filter p).map f) := fun B0 H0 B H σ Q S q =>
  hw B0 H0 B H σ _ S fun J B1 H1 s1 yd L nL => by
    have S1 := S.step s1
    have hfoot := new_foot (S := S1) nL
    have h0L := S1.hist.hh.free nL
    refine ⟨fun k m H' => m = xs.length - k ∧ k ≤ xs.length ∧ ∃ B' acc, Sd K B1 H0 B' H' σ δ ∧ B' L = none ∧ H' L = some (.lst acc) ∧ DqAll K B' acc (((xs.take k).filter p).map f) ∧ Stp B1 H1 B' H', ⟨_, rfl, Nat.zero_le _, B1, [], ?_, s1.bh.free nL, upd_same, ?_, .newOwn s1.bh nL⟩, ?_⟩
    · exact (S1.past S1.hist.bb (Sam.refl _)).step (.newOwn s1.bh nL)
    · rw [List.take_zero]; exact .nil
    rintro k m H' ⟨rfl, hk, B', acc, S', bL, hL, hA, sp⟩
    obtain ⟨y1, y2⟩ := yd B' H' k S'.hist.bb S'.hist.bh
    by_cases hlt : k < xs.length
    · obtain ⟨go, yy⟩ := y1 (by rw [List.length_map]; exact hlt)
      refine .inr ⟨go, fun H'' => ∃ B'' acc, Sd K B1 H0 B'' H'' σ δ ∧ B'' L = none ∧ H'' L = some (.lst acc) ∧ DqAll K B'' acc (((xs.take (k + 1)).filter p).map f) ∧ Stp B1 H1 B'' H'', fun H'' z => ⟨xs.length - (k + 1), by omega, rfl, hlt, z⟩, fun x H2 yl => ?_⟩
      obtain ⟨B2, d', s2, ed', dp⟩ := yy x H2 yl
      have ed : xs[k]? = some xs[k] := List.getElem?_eq_getElem hlt
      have eg : d' = g xs[k] := by
        rw [List.getElem?_map, ed] at ed'
        exact (Option.some.inj ed').symm
      subst eg
      have hm : xs[k] ∈ xs := List.getElem_mem hlt
      have hLne : H' L ≠ none := by rw [hL]; exact fun z => nomatch z
      have S2 := S'.step s2
      have S3 : Sd K B1 H0 B2 H2 ((wipe σ [i]).set i (some x)) ((δ.set i .no).set i (.val (g xs[k]))) := (S2.forget (i := i) (o := none)).setVal dp
      refine ⟨wipe_gName, ht xs[k] hm B1 H0 B2 H2 _ _ S3 fun B3 H3 s3 => ?_⟩
      cases e : p xs[k] with
      | true =>
        refine iteT (he xs[k] hm e B1 H0 B3 H3 _ _ (S3.step s3) fun v B4 H4 s4 dv => ?_)
        have st := (s2.trans s3).trans s4
        have hL4 : H4 L = some (.lst acc) := st.hh.at hL
        have bL4 : B4 L = none := st.fr L hLne bL
        have hA4 := DqAll.up st.bb _ _ hA
        refine ⟨acc, hL4, ?_, B4, acc ++ [v], ?_, bL4, upd_same, ?_, ?_⟩
        · have h1 := hA.len
          have h2 : (((xs.take k).filter p).map f).length ≤ k := by
            rw [List.length_map]
            exact Nat.le_trans (List.length_filter_le _ _) (by rw [List.length_take]; omega)
          omega
        · exact (S'.step st).updFree bL4 h0L hfoot (.inr ⟨_, hL4, nt_lst⟩) nt_lst.1
        · rw [map_take_succ ed, if_pos e]
          exact hA4.app (.cons dv .nil)
        · exact (sp.trans st).updNew nL bL4 ⟨_, hL4, nt_lst⟩ nt_lst.1
      | false =>
        refine iteF ⟨B3, acc, S'.step (s2.trans s3), (s2.trans s3).fr L hLne bL, (s2.trans s3).hh.at hL, ?_, sp.trans (s2.trans s3)⟩
        rw [map_take_succ ed, e, if_neg Bool.false_ne_true, List.append_nil]
        exact DqAll.up (s2.trans s3).bb _ _ hA
    · have e : k = xs.length := by omega
      subst e
      rw [List.take_length] at hA
      exact .inl ⟨y2 (by rw [List.length_map]), q L acc B' H' (s1.trans sp) (s1.hh.free nL) bL hL hA⟩
theorem et_yes {δ : List SV} : ET K tYes δ true := fun B0 H0 B H σ Q S q => q B H (.refl S.hist.bh)
theorem en_lc1 {α : Type} {xs : List α} {g : α → D} {wi : TI} {i : Nat} {f : α → D} (hw : EI K wi δ (xs.map g)) (hl : xs.length ≤ sizeLine)
    (he : ∀ x, x ∈ xs → ED K te ((δ.set i .no).set i (.val (g x))) (f x)) : EN K (tLc wi (gName i) tYes te [i]) δ (xs.map f) := by
  have := en_lcG (p := fun _ => true) (f := f) hw hl (fun _ _ => et_yes) fun d hd _ => he d hd
  rwa [List.filter_eq_self.mpr (fun _ _ => rfl)] at this
theorem ED.of {d' : D} (h : ED K te δ d) (e : d = d') : ED K te δ d' := e ▸ h
theorem EN.of (h : EN K te δ ds) (e : ds = es) : EN K te δ es := e ▸ h
theorem ET.of {b b' : Bool} (h : ET K t δ b) (e : b = b') : ET K t δ b' := e ▸ h
theorem EI.of {wi : TI} (h : EI K wi δ ds) (e : ds = es) : EI K wi δ es := e ▸ h
/-- x is b, x is not b: bools -/
theorem ed_isB {a b : Bool} (h : ED K ta δ (.bool a)) (h' : ED K tb δ (.bool b)) : ED K (tOp rIsB ta tb) δ (.bool (decide (a = b))) := fun B0 H0 B H σ Q S q =>
  h B0 H0 B H σ _ S fun v B1 H1 s1 c => h' B0 H0 B1 H1 σ _ (S.step s1) fun w B2 H2 s2 d => by
    cases Dq.bool_inv c; cases Dq.bool_inv d
    exact ⟨a, b, rfl, rfl, q _ B2 H2 (s1.trans s2) (.bl _)⟩
theorem ed_notB {a b : Bool} (h : ED K ta δ (.bool a)) (h' : ED K tb δ (.bool b)) : ED K (tOp rNotB ta tb) δ (.bool (!decide (a = b))) := fun B0 H0 B H σ Q S q =>
  h B0 H0 B H σ _ S fun v B1 H1 s1 c => h' B0 H0 B1 H1 σ _ (S.step s1) fun w B2 H2 s2 d => by
    cases Dq.bool_inv c; cases Dq.bool_inv d
    exact ⟨a, b, rfl, rfl, q _ B2 H2 (s1.trans s2) (.bl _)⟩
/-- xs[::-1] -/
theorem en_rev (h : ED K te δ (.list ds)) : EN K (tRevL K te) δ ds.reverse := fun B0 H0 B H σ Q S q => h B0 H0 B H σ _ S fun v B1 H1 s1 a => by
  cases a with
  | lst hs hA => exact ⟨_, _, rfl, s1.bh.seq hs, fun p hp => q p _ B1 _ (s1.trans (.newOwn s1.bh hp)) (s1.hh.free hp) (s1.bh.free hp) upd_same (dqall_rev hA)⟩
end
end DX

namespace DX
open PySem L2
variable [TabEnv]

/-! ### statements -/
structure EndsD where
  nx : List SV → Prop
  rt : D → Prop
  bk : List SV → Prop := fun _ => False
  ct : List SV → Prop := fun _ => False
  rn : List D → Prop := fun _ => False
  rs : D → List SV → Prop := fun _ _ => False
structure Lift (K : PySem.W.Frag) (B0 H0 : Hp) (E : EndsD) (D : Ends) : Prop where
  nx : ∀ σ H B δ, Sd K B0 H0 B H σ δ → E.nx δ → D.nx σ H
  rt : ∀ v B H d, Hist B0 H0 B H → Dq K B v d → E.rt d → D.rt v H
  bk : ∀ σ H B δ, Sd K B0 H0 B H σ δ → E.bk δ → D.bk σ H
  ct : ∀ σ H B δ, Sd K B0 H0 B H σ δ → E.ct δ → D.ct σ H
  rn : ∀ p vs B H ds, Hist B0 H0 B H → H0 p = none → B p = none → H p = some (.lst vs) → DqAll K B vs ds → E.rn ds → D.rt (.ref p) H
  rs : ∀ v B H d σ δ, Sd K B0 H0 B H σ δ → Dq K B v d → E.rs d δ → D.rt v H
def WP (K : PySem.W.Frag) (ts : TS) (E : EndsD) (δ : List SV) : Prop := ∀ (B0 H0 B H : Hp) (σ : L2.St) (D : Ends), Lift K B0 H0 E D → Sd K B0 H0 B H σ δ → ts D σ H
/-- assignment to a target -/
def GD (K : PySem.W.Frag) (g : TG) (δ : List SV) (d : D) (δ' : List SV) : Prop := ∀ (B0 H0 B H : Hp) (σ : L2.St) (v : V) (Q : L2.St → Hp → Prop), Sd K B0 H0 B H σ δ → Dq K B v d → (∀ σ', Sd K B0 H0 B H σ' δ' → Q σ' H) → g v σ H Q
def GDs (K : PySem.W.Frag) (g : TGs) (δ : List SV) (ds : List D) (δ' : List SV) : Prop := ∀ (B0 H0 B H : Hp) (σ : L2.St) (vs : List V) (Q : L2.St → Hp → Prop), Sd K B0 H0 B H σ δ → DqAll K B vs ds → (∀ σ', Sd K B0 H0 B H σ' δ' → Q σ' H) → g vs σ H Q
section
variable {K : PySem.W.Frag} {δ δ' δ'' : List SV} {ta tb te : TE} {c : TT} {t u : TS} {d x y : D} {ds es : List D} {E : EndsD}
theorem gd_name {i : Nat} : GD K (gName i) δ d (δ.set i (.val d)) := fun B0 H0 B H σ v Q S h q => q _ (S.setVal h)
theorem gds_nil : GDs K gNil δ [] δ := fun B0 H0 B H σ vs Q S h q => by
  cases h
  exact ⟨rfl, q σ S⟩
theorem gds_cons {g : TG} {gs : TGs} (h1 : GD K g δ d δ') (h2 : GDs K gs δ' ds δ'') : GDs K (gCons g gs) δ (d :: ds) δ'' := fun B0 H0 B H σ vs Q S h q => by
  cases h with
  | cons a b => exact ⟨_, _, rfl, h1 B0 H0 B H σ _ _ S a fun σ' S' => h2 B0 H0 B H σ' _ _ S' b q⟩
theorem gd_tup {g : TGs} {n : Nat} (h : GDs K g δ ds δ') (e : ds.length = n) : GD K (gTup K n g) δ (.tuple ds) δ' := fun B0 H0 B H σ v Q S a q => by
  cases a with
  | tup hs hA => exact ⟨_, _, rfl, sqT_up S.hist.bh hs, hA.len.trans e, h B0 H0 B H σ _ Q S hA q⟩

/-- an own one's address is no other slot's own -/
theorem own_apart {B0 H0 B H : Hp} {σ : L2.St} {p : Addr} {i : Nat} {x : OD} (S : Sd K B0 H0 B H σ δ) (e : δ[i]? = some (.own x)) (a1 : σ[i]? = some (some (.ref p))) (j : Nat) (s : SV) (q : Option V) (n : i ≠ j) (e2 : δ[j]? = some s) (eq : σ[j]? = some q) : p ∉ foot s q :=
  S.apart i j _ _ _ _ n e e2 a1 eq p (List.mem_singleton.mpr rfl)
theorem wp_seq (h : WP K t { E with nx := fun δ' => WP K u E δ' } δ) : WP K (tSeq t u) E δ := fun B0 H0 B H σ D L S =>
  h B0 H0 B H σ { D with nx := u D } ⟨fun σ' H' B' δ' S' w => w B0 H0 B' H' σ' D L S', L.rt, L.bk, L.ct, L.rn, L.rs⟩ S
theorem wp_next (h : E.nx δ) : WP K tNext E δ := fun B0 H0 B H σ D L S => L.nx σ H B δ S h
theorem wp_asgG {g : TG} (h : ED K te δ d) (hg : GD K g δ d δ') (q : E.nx δ') : WP K (tAsg te g) E δ := fun B0 H0 B H σ D L S =>
  h B0 H0 B H σ _ S fun v B1 H1 s1 a => hg B0 H0 B1 H1 σ v _ (S.step s1) a fun σ' S' => L.nx σ' H1 B1 δ' S' q
theorem wp_asg {i : Nat} (h : ED K te δ d) (q : E.nx (δ.set i (.val d))) : WP K (tAsg te (gName i)) E δ := wp_asgG h gd_name q
theorem wp_asgN {i : Nat} (h : EN K te δ ds) (q : E.nx (δ.set i (.own (.l ds)))) : WP K (tAsg te (gName i)) E δ := fun B0 H0 B H σ D L S =>
  h B0 H0 B H σ _ S fun p vs B1 H1 s1 np bp hp a => by
    refine L.nx _ H1 B1 _ ((S.step s1).set (x := .own (.l ds)) (show SlotOk K B1 H1 H0 (some (.ref p)) (.own (.l ds)) from ⟨p, .lst vs, rfl, hp, bp, S.hist.hh.free np, vs, rfl, a⟩) fun z mz => by
      rw [List.mem_singleton.mp mz]
      exact new_apart S np) q
theorem wp_par {i j : Nat} {ta : TA} (h : EA K ta δ [x, y]) (q : E.nx ((δ.set i (.val x)).set j (.val y))) : WP K (tPar i j ta) E δ := fun B0 H0 B H σ D L S =>
  h B0 H0 B H σ _ S fun vs B1 H1 s1 a => by
    obtain ⟨v, w, rfl, b, c⟩ := a.two
    exact ⟨v, w, rfl, L.nx _ H1 B1 _ (((S.step s1).setVal b).setVal c) q⟩
theorem wp_ret (h : ED K te δ d) (q : E.rt d) : WP K (tRet te) E δ := fun B0 H0 B H σ D L S =>
  h B0 H0 B H σ _ S fun v B1 H1 s1 a => L.rt v B1 H1 d (s1.hist S.hist) a q
theorem wp_retN (q : E.rt .none) : WP K tRetN E δ := fun B0 H0 B H σ D L S => L.rt _ B H .none S.hist .non q
theorem wp_if {b : Bool} (h : ET K c δ b) (h1 : b = true → WP K t E δ) (h2 : b = false → WP K u E δ) : WP K (tIfS c t u) E δ := fun B0 H0 B H σ D L S =>
  h B0 H0 B H σ _ S fun B1 H1 s1 => by
    cases b with
    | true => exact iteT (h1 rfl B0 H0 B1 H1 σ D L (S.step s1))
    | false => exact iteF (h2 rfl B0 H0 B1 H1 σ D L (S.step s1))
theorem wp_drop (h : ED K te δ d) (q : E.nx δ) : WP K (tDrop te) E δ := fun B0 H0 B H σ D L S =>
  h B0 H0 B H σ _ S fun v B1 H1 s1 a => L.nx σ H1 B1 δ (S.step s1) q
theorem wp_break (q : E.bk δ) : WP K tBreak E δ := fun B0 H0 B H σ D L S => L.bk σ H B δ S q
theorem wp_cont (q : E.ct δ) : WP K tCont E δ := fun B0 H0 B H σ D L S => L.ct σ H B δ S q
/-- an owned list is known from now on -/
theorem Sd.freezeAt {B0 H0 B H : Hp} {σ : L2.St} {i : Nat} {p : Addr} {vs : List V} (S : Sd K B0 H0 B H σ δ) (e : δ[i]? = some (.own (.l ds))) (a1 : σ[i]? = some (some (.ref p))) (hp : H p = some (.lst vs)) (bp : B p = none) (h0 : H0 p = none) (dp : DqAll K B vs ds) :
    Sd K B0 H0 (upd B p (.lst vs)) H σ (δ.set i (.val (.list ds))) := by
  obtain ⟨k1, k2⟩ := Stp.know (o := .lst vs) S.hist.bh bp hp
  refine ⟨⟨S.hist.bb.trans k1, k2, S.hist.hh, fun a q z => ?_⟩, by rw [List.length_set]; exact S.len, fun j s ej => ?_, S.apart.less e fun o eo a ma => by cases ma⟩
  · have : a ≠ p := fun e => by subst e; exact q h0
    rw [upd_ne this]; exact S.hist.fr a q z
  · rcases get_set ej with ⟨rfl, rfl⟩ | ⟨hne, ej⟩
    · exact ⟨_, a1, .ref p, rfl, .lst (.inl (.inl upd_same)) (DqAll.up k1 _ _ dp)⟩
    · obtain ⟨o, eo, ok⟩ := S.ok j s ej
      refine ⟨o, eo, ?_⟩
      cases s with
      | no => exact True.intro
      | ob C fs => obtain ⟨pp, dx, ws, e1, e2, e3, e4⟩ := ok; exact ⟨pp, dx, ws, e1, e2, e3, e4.up k1⟩
      | big R F => exact big_step ok (own_apart S e a1 j _ o hne ej eo) k1 (fun a z => upd_ne z) (fun _ _ => rfl)
      | val d => obtain ⟨v, e1, e2⟩ := ok; exact ⟨v, e1, Dq.up k1 _ _ e2⟩
      | own es =>
        obtain ⟨pp, ws, e1, e2, e3, e4, e5⟩ := ok
        have hne2 : pp ≠ p := fun z => by
          subst z
          subst e1
          exact S.apartOwn i j pp (.l ds) es hne e ej a1 eo
        exact ⟨pp, ws, e1, e2, by rw [upd_ne hne2]; exact e3, e4, e5.up k1⟩
theorem Sd.freeze {B0 H0 B H : Hp} {σ : L2.St} {i : Nat} (S : Sd K B0 H0 B H σ δ) (e : δ[i]? = some (.own (.l ds))) : ∃ B', Sd K B0 H0 B' H σ (δ.set i (.val (.list ds))) ∧ Sam B B' := by
  obtain ⟨p, vs, a1, hp, bp, h0, dp⟩ := S.slotOwn e
  exact ⟨_, S.freezeAt e a1 hp bp h0 dp, (Stp.know (o := .lst vs) S.hist.bh bp hp).1⟩
theorem wp_freeze (i : Nat) (e : δ[i]? = some (.own (.l ds))) (h : WP K t E (δ.set i (.val (.list ds)))) : WP K t E δ := fun B0 H0 B H σ D L S => by
  obtain ⟨B', S', _⟩ := S.freeze e
  exact h B0 H0 B' H σ D L S'
theorem wp_retOwn {i : Nat} (e : δ[i]? = some (.own (.l ds))) (q : E.rt (.list ds)) : WP K (tRet (tVar i)) E δ :=
  wp_freeze i e (wp_ret (ed_var (by
    have hl : i < δ.length := (List.getElem?_eq_some_iff.mp e).1
    rw [List.getElem?_set_self hl])) q)
/-- xs.append(e), xs owned -/
theorem rep_ins {B : Hp} {C dx : Addr} {ws : List (Str × V)} : ∀ {x : OD}, OwnRep K B (.ins C dx ws) x → False
  | .l ds, ⟨vs, a, _⟩ => by cases a
  | .m es, ⟨vs, a, _⟩ => by cases a
theorem own_upd {B0 H0 B H : Hp} {σ : L2.St} {i : Nat} {p : Addr} {u : HO} {xo yo : OD} (S : Sd K B0 H0 B H σ δ) (e : δ[i]? = some (.own xo)) (a1 : σ[i]? = some (some (.ref p))) (bp : B p = none) (h0 : H0 p = none) (h : OwnRep K B u yo) : Sd K B0 H0 B (upd H p u) σ (δ.set i (.own yo)) := by
  have notins : ∀ C dx ws, H p ≠ some (.ins C dx ws) := fun C dx ws z => by
    obtain ⟨p', u', b1, b2, _, _, b5⟩ := S.slotObj e
    rw [a1] at b1; cases b1
    rw [z] at b2; cases b2
    exact rep_ins b5
  have hsi : i < δ.length := (List.getElem?_eq_some_iff.mp e).1
  have tbu : TabsG (upd H p u) := by
    obtain ⟨p', u', c1, c2, _, _, c5⟩ := S.slotObj e
    rw [a1] at c1; cases c1
    exact S.hist.bh.tb.upd (.inr ⟨u', c2, rep_nt c5, rep_ext c5⟩) (rep_nt h)
  refine ⟨⟨S.hist.bb, ⟨fun a o ea => ?_, tbu⟩, fun a o ea => ?_, S.hist.fr⟩, by rw [List.length_set]; exact S.len, fun j s ej => ?_, S.apart.less e fun o eo a ma => ma⟩
  · have : a ≠ p := fun z => by subst z; rw [bp] at ea; cases ea
    rw [upd_ne this]; exact S.hist.bh.sm _ _ ea
  · have : a ≠ p := fun z => by subst z; rw [h0] at ea; cases ea
    rw [upd_ne this]; exact S.hist.hh _ _ ea
  · rcases get_set ej with ⟨rfl, rfl⟩ | ⟨hne, ej⟩
    · exact ⟨_, a1, p, u, rfl, upd_same, bp, h0, h⟩
    · obtain ⟨o, eo, ok⟩ := S.ok j s ej
      refine ⟨o, eo, ?_⟩
      cases s with
      | no => exact True.intro
      | ob C fs =>
        obtain ⟨pp, dx, ws, e1, e2, e3⟩ := ok
        have hne2 : pp ≠ p := fun z => by subst z; exact notins _ _ _ e2
        exact ⟨pp, dx, ws, e1, by rw [upd_ne hne2]; exact e2, e3⟩
      | big R F => exact big_step ok (own_apart S e a1 j _ o hne ej eo) (Sam.refl _) (fun _ _ => rfl) (fun a z => upd_ne z)
      | val d => exact ok
      | own es' =>
        obtain ⟨pp, us, e1, e2, e3, e4, e5⟩ := ok
        have hne2 : pp ≠ p := fun z => by
          subst z
          subst e1
          exact S.apartOwn i j pp xo es' hne e ej a1 eo
        exact ⟨pp, us, e1, by rw [upd_ne hne2]; exact e2, e3, e4, e5⟩
theorem wp_app {i : Nat} (e : δ[i]? = some (.own (.l ds))) (h : ED K te δ d) (hl : ds.length < sizeLine) (q : E.nx (δ.set i (.own (.l (ds ++ [d]))))) : WP K (tDrop (tBM K "list" rAppend (tVar i) (tCons te tNil))) E δ := fun B0 H0 B H σ D L S => by
  obtain ⟨p, vs, a1, hp, bp, h0, dp⟩ := S.slotOwn e
  refine ⟨_, a1, .inl ⟨rfl, vs, .inl (.inl hp)⟩, h B0 H0 B H σ _ S fun v B1 H1 s1 a => ?_⟩
  have S1 := S.step s1
  obtain ⟨p', vs', a1', hp', bp', h0', dp'⟩ := S1.slotOwn e
  rw [a1] at a1'; cases a1'
  refine ⟨p, vs', v, rfl, rfl, hp', by rw [dp'.len]; exact hl, L.nx _ _ B1 _ (own_upd (yo := .l _) S1 e a1 bp' h0' ⟨_, rfl, dp'.app (.cons a .nil)⟩) q⟩
theorem ixN_at {n : Nat} {i : Int} {j : Nat} (h0 : 0 ≤ i) (h : i < n) (e : i.toNat = j) : ixN n i = some j := by
  unfold ixN
  rw [if_pos h0, if_pos h, e]
/-- xs[i] = e, xs owned -/
theorem wp_setOwn {i : Nat} {k : Int} {j : Nat} (e : δ[i]? = some (.own (.l ds))) (h : ED K te δ d) (hk : ED K tb δ (.int k)) (hj : ixN ds.length k = some j) (q : E.nx (δ.set i (.own (.l (ds.set j d))))) : WP K (tAsg te (gSub (tVar i) tb rSetL)) E δ := fun B0 H0 B H σ D L S =>
  h B0 H0 B H σ _ S fun v B1 H1 s1 a => by
    have S1 := S.step s1
    obtain ⟨p, vs, a1, hp, bp, h0, dp⟩ := S1.slotOwn e
    refine ⟨_, a1, hk B0 H0 B1 H1 σ _ S1 fun w B2 H2 s2 b => ?_⟩
    cases Dq.int_inv b
    have S2 := S1.step s2
    obtain ⟨p', vs', a1', hp', bp', h0', dp'⟩ := S2.slotOwn e
    rw [a1] at a1'; cases a1'
    exact ⟨p, vs', k, j, rfl, rfl, hp', by rw [dp'.len]; exact hj, L.nx _ _ B2 _ (own_upd (yo := .l _) S2 e a1 bp' h0' ⟨_, rfl, dp'.set (Dq.up s2.bb _ _ a) j⟩) q⟩
/-- x op= e, ints -/
theorem wp_aug {i : Nat} {f : Int → Int → Int} {a b : Int} (hx : δ[i]? = some (.val (.int a))) (h : ED K te δ (.int b)) (q : E.nx (δ.set i (.val (.int (f a b))))) : WP K (tAug i te (ipI f)) E δ := fun B0 H0 B H σ D L S => by
  obtain ⟨v, e, dv⟩ := S.slot hx
  cases Dq.int_inv dv
  refine ⟨_, e, h B0 H0 B H σ _ S fun w B1 H1 s1 c => ?_⟩
  cases Dq.int_inv c
  exact ⟨a, b, rfl, rfl, L.nx _ H1 B1 _ ((S.step s1).setVal (.int _)) q⟩
/-! ### loops -/
theorem wp_for {wi : TI} {g : TG} (I : Nat → List SV → Prop) (hw : EI K wi δ ds) (h0 : I 0 δ)
    (hs : ∀ k d δ', ds[k]? = some d → I k δ' → ∃ δ'', GD K g δ' d δ'' ∧ WP K t { E with nx := I (k + 1), ct := I (k + 1), bk := E.nx } δ'') (hd : ∀ δ', I ds.length δ' → E.nx δ') : WP K (tFor wi g t) E δ := fun B0 H0 B H σ D L S =>
  hw B0 H0 B H σ _ S fun J B1 H1 s1 yd => by
    have S1 := S.step s1
    refine ⟨fun k m σ' H' => m = ds.length - k ∧ k ≤ ds.length ∧ ∃ B' δ', Sd K B1 H0 B' H' σ' δ' ∧ I k δ', ⟨_, rfl, Nat.zero_le _, B1, δ, S1.past S1.hist.bb (Sam.refl _), h0⟩, ?_⟩
    rintro k m σ' H' ⟨rfl, hk, B', δ', S', ik⟩
    obtain ⟨y1, y2⟩ := yd B' H' k S'.hist.bb S'.hist.bh
    by_cases hlt : k < ds.length
    · obtain ⟨go, yy⟩ := y1 hlt
      refine .inr ⟨go, fun σ2 H2 => ∃ B2 δ2, Sd K B1 H0 B2 H2 σ2 δ2 ∧ I (k + 1) δ2, fun σ2 H2 ⟨B2, δ2, S2, i2⟩ => ⟨ds.length - (k + 1), by omega, rfl, hlt, B2, δ2, S2, i2⟩, fun x H2 yl => ?_⟩
      obtain ⟨B2, d, s2, ed, dp⟩ := yy x H2 yl
      obtain ⟨δ'', gd, wp⟩ := hs k d δ' ed ik
      refine gd B1 H0 B2 H2 σ' x _ (S'.step s2) dp fun σ3 S3 => wp B1 H0 B2 H2 σ3 _ ⟨fun σ4 H4 B4 δ4 S4 q => ⟨B4, δ4, S4, q⟩, fun v B4 H4 d' hh dv q => L.rt v B4 H4 d' (hh.back S1.hist) dv q, fun σ4 H4 B4 δ4 S4 q => L.nx σ4 H4 B4 δ4 (S4.back S1.hist) q, fun σ4 H4 B4 δ4 S4 q => ⟨B4, δ4, S4, q⟩, fun p vs B4 H4 ds hh n0 nb hp da q => L.rn p vs B4 H4 ds (hh.back S1.hist) n0 nb hp da q, fun v B4 H4 d' σ4 δ4 S4 dv q => L.rs v B4 H4 d' σ4 δ4 (S4.back S1.hist) dv q⟩ S3
    · have e : k = ds.length := by omega
      subst e
      exact .inl ⟨y2 rfl, L.nx σ' H' B' δ' (S'.back S1.hist) (hd δ' ik)⟩
/-- one name as target -/
theorem wp_for1 {wi : TI} {i : Nat} (I : Nat → List SV → Prop) (hw : EI K wi δ ds) (h0 : I 0 δ)
    (hs : ∀ k d δ', ds[k]? = some d → I k δ' → WP K t { E with nx := I (k + 1), ct := I (k + 1), bk := E.nx } (δ'.set i (.val d))) (hd : ∀ δ', I ds.length δ' → E.nx δ') : WP K (tFor wi (gName i) t) E δ :=
  wp_for I hw h0 (fun k d δ' e ik => ⟨_, gd_name, hs k d δ' e ik⟩) hd
theorem wp_forG {α : Type} {xs : List α} {g : α → D} {wi : TI} {i : Nat} (I : Nat → List SV → Prop) (hw : EI K wi δ (xs.map g)) (h0 : I 0 δ)
    (hs : ∀ k x δ', xs[k]? = some x → I k δ' → WP K t { E with nx := I (k + 1), ct := I (k + 1), bk := E.nx } (δ'.set i (.val (g x)))) (hd : ∀ δ', I xs.length δ' → E.nx δ') : WP K (tFor wi (gName i) t) E δ :=
  wp_for1 I hw h0 (fun k d δ' e ik => by
    rw [List.getElem?_map] at e
    cases q : xs[k]? with
    | none => rw [q] at e; cases e
    | some x => rw [q] at e; cases e; exact hs k x δ' q ik) (by rw [List.length_map]; exact hd)
theorem wp_while (I : Nat → List SV → Prop) {n : Nat} (h0 : I n δ)
    (hs : ∀ n δ', I n δ' → ∃ b, ET K c δ' b ∧ (b = true → WP K t { E with nx := fun δ2 => ∃ m, m < n ∧ I m δ2, ct := fun δ2 => ∃ m, m < n ∧ I m δ2, bk := E.nx } δ') ∧ (b = false → E.nx δ')) : WP K (tWhile c t) E δ := fun B0 H0 B H σ D L S => by
  refine ⟨fun m σ' H' => ∃ B' δ', Sd K B0 H0 B' H' σ' δ' ∧ I m δ', ⟨n, B, δ, S, h0⟩, ?_⟩
  rintro m σ' H' ⟨B', δ', S', im⟩
  obtain ⟨b, hb, h1, h2⟩ := hs m δ' im
  refine hb B0 H0 B' H' σ' _ S' fun B2 H2 s2 => ?_
  cases b with
  | true =>
    refine iteT ⟨fun σ3 H3 => ∃ m', m' < m ∧ ∃ B3 δ3, Sd K B0 H0 B3 H3 σ3 δ3 ∧ I m' δ3, fun σ3 H3 z => z, h1 rfl B0 H0 B2 H2 σ' _ ⟨?_, L.rt, L.nx, ?_, L.rn, L.rs⟩ (S'.step s2)⟩
    · rintro σ4 H4 B4 δ4 S4 ⟨m', l, q⟩
      exact ⟨m', l, B4, δ4, S4, q⟩
    · rintro σ4 H4 B4 δ4 S4 ⟨m', l, q⟩
      exact ⟨m', l, B4, δ4, S4, q⟩
  | false => exact iteF (L.nx σ' H2 B2 δ' (S'.step s2) (h2 rfl))
end
/-! ### a def -/
def startD (N : List Str) (ds : List D) : List SV := ds.map .val ++ List.replicate (N.length - ds.length) .no
section
variable {P : Program} {w : World} {K : PySem.W.Frag} {mg : Str → Option Value} {base : Heap}
theorem start_sd {N : List Str} {vs : List V} {ds : List D} {B H : Hp} (bh : Bh B H) (h : DqAll K B vs ds) : Sd K B H B H (L2.start N vs) (startD N ds) := by
  have hl := h.len
  refine ⟨⟨Sam.refl _, bh, Sam.refl _, fun _ _ z => z⟩, ?_, fun i s e => ?_, fun i j s t o q n e1 e2 e3 e4 a ma => ?_⟩
  · unfold L2.start startD
    rw [List.length_append, List.length_append, List.length_map, List.length_map, List.length_replicate, List.length_replicate, hl]
  · unfold startD at e
    unfold L2.start
    by_cases hi : i < ds.length
    · rw [List.getElem?_append_left (by rw [List.length_map]; exact hi), List.getElem?_map, List.getElem?_eq_getElem hi] at e
      cases e
      obtain ⟨v, a, b⟩ := h.get (List.getElem?_eq_getElem hi)
      rw [List.getElem?_append_left (by rw [List.length_map, hl]; exact hi), List.getElem?_map, a]
      exact ⟨_, rfl, v, rfl, b⟩
    · rw [List.getElem?_append_right (by rw [List.length_map]; omega), List.length_map] at e
      rw [List.getElem?_append_right (by rw [List.length_map, hl]; omega), List.length_map, hl]
      rw [List.getElem?_replicate] at e ⊢
      by_cases hz : i - ds.length < N.length - ds.length
      · rw [if_pos hz] at e ⊢
        cases e
        exact ⟨_, rfl, True.intro⟩
      · rw [if_neg hz] at e; cases e
  · unfold startD at e1
    by_cases hi : i < ds.length
    · rw [List.getElem?_append_left (by rw [List.length_map]; exact hi), List.getElem?_map, List.getElem?_eq_getElem hi] at e1
      cases e1; cases ma
    · rw [List.getElem?_append_right (by rw [List.length_map]; omega), List.length_map, List.getElem?_replicate] at e1
      by_cases hz : i - ds.length < N.length - ds.length
      · rw [if_pos hz] at e1; cases e1; cases ma
      · rw [if_neg hz] at e1; cases e1
/-- a def by its body, its code object told -/
theorem _root_.L2.Fun.okC {x qual : Str} {st : Stmt} {f : Addr} {fd : FuncData} {N ps : List Str} {k : Nat} {sp : Sp} (F : Fun K x qual st f fd) (S : FnScope N ps (defScope st)) (len : ∀ vs H Q E, sp vs H Q E → vs.length = ps.length)
    (go : ∀ (cdv : Value), fd.code = cdv → ∀ (A : Around) (outer : List Env) (s : Shared) (H : Hp) (vs : List V) (Q : VK) (E : XK), Room k (A.deeper (PyProof.Rows.envOfC qual (defScope st) s.heap.objs.size f cdv)) → sp vs H Q E →
      ∃ t, PSs (cxOf CX0 P w K mg base N qual (defScope st) f cdv A outer s H E).nox (defBody st) t ∧ t { nx := fun _ H' => Q .non H', rt := Q } (L2.start N vs) H) : FnOk P w K mg base CX0 (k + 1) f fd ps sp := by
  obtain ⟨oc, od, kV, doc, pm, an, cdv, ct, osl, ef, lk, hcd⟩ := F.ex
  have hcv : fd.code = cdv := by rw [ef] <;> rfl
  subst ef
  exact fn_of lk hcd S len fun A outer s H vs Q E hr hsp => (go cdv hcv A outer s H vs Q E hr hsp).imp fun t h => ⟨h.1.nox, h.2⟩
theorem ok_wp {x qual : Str} {st : Stmt} {f : Addr} {fd : FuncData} {N ps : List Str} {k : Nat} {R : List D → D → Prop} (F : Fun K x qual st f fd) (S : FnScope N ps (defScope st)) (len : ∀ ds d, R ds d → ds.length = ps.length)
    (hb : ∀ (cdv : Value), fd.code = cdv → ∀ (A : Around) (outer : List Env) (s : Shared) (H : Hp) (E : XK), Room k (A.deeper (PyProof.Rows.envOfC qual (defScope st) s.heap.objs.size f cdv)) →
      ∃ t, PSs (cxOf CX0 P w K mg base N qual (defScope st) f cdv A outer s H E).nox (defBody st) t ∧ ∀ ds d, R ds d → WP K t { nx := fun _ => PyData.none = d, rt := fun d' => d' = d } (startD N ds)) : FnOk P w K mg base CX0 (k + 1) f fd ps (spD K R) := by
  refine F.okC S (fun vs H Q E h => ?_) (fun cdv hcv A outer s H vs Q E hr h => ?_)
  · obtain ⟨B, ds, d, r, bh, a, _⟩ := h
    rw [a.len]; exact len ds d r
  · obtain ⟨t, ht, q⟩ := hb cdv hcv A outer s H E hr
    refine ⟨t, ht, ?_⟩
    obtain ⟨B, ds, d, r, bh, a, hq⟩ := h
    refine q ds d r B H B H _ _ ⟨fun σ' H' B' δ' S' e => ?_, fun v B' H' d' hh dv e => ?_, fun _ _ _ _ _ z => z.elim, fun _ _ _ _ _ z => z.elim, fun _ _ _ _ _ _ _ _ _ _ z => z.elim, fun _ _ _ _ _ _ _ _ z => z.elim⟩ (start_sd bh a)
    · subst e
      exact hq _ B' H' ⟨S'.hist.bb, S'.hist.bh, S'.hist.hh, S'.hist.fr⟩ .non
    · subst e
      exact hq v B' H' ⟨hh.bb, hh.bh, hh.hh, hh.fr⟩ dv
end
end DX

namespace DX
open PySem L2
variable [TabEnv]

/-! ### rules with the written part named -/
section
variable {X : Cx} {K : PySem.W.Frag} {tg l e : Expr} {tl te : TE} {pos : Pos}
theorem kx_ix (hK : X.K = K := by rfl) : IxR X (rIx K) := by subst hK; exact ix_seq
theorem kx_sl (hK : X.K = K := by rfl) : SlR X (rSlL K) := by subst hK; exact sl_list
theorem kx_len (hK : X.K = K := by rfl) : CallR X (.builtin "len") (rLenQ K) := by subst hK; exact cr_lenQ
theorem kx_list (hK : X.K = K := by rfl) : CallR X (.type "list") (rListQ K) := by subst hK; exact cr_listQ
theorem kx_tuple (hK : X.K = K := by rfl) : CallR X (.type "tuple") (rTupleQ K) := by subst hK; exact cr_tupleQ
theorem kx_isi (hK : X.K = K := by rfl) : CallR X (.builtin "isinstance") (rIsi K) := by subst hK; exact call_isi
theorem kx_sum (hK : X.K = K := by rfl) (hc : X.calm = true := by rfl) : CallR X (.builtin "sum") (rSum K) := by subst hK; exact cr_sum hc
theorem kx_all (hK : X.K = K := by rfl) (hc : X.calm = true := by rfl) : CallR X (.builtin "all") (rAll K) := by subst hK; exact cr_all hc
theorem kx_any (hK : X.K = K := by rfl) (hc : X.calm = true := by rfl) : CallR X (.builtin "any") (rAny K) := by subst hK; exact cr_any hc
theorem kx_eq (hu : X.A.units + 64 < cLine) (hK : X.K = K := by rfl) : OpR X (compareOp .Eq) (rEqD K) := by subst hK; exact op_eqD hu
theorem kx_ne (hu : X.A.units + 64 < cLine) (hK : X.K = K := by rfl) : OpR X (compareOp .NotEq) (rNeD K) := by subst hK; exact op_neD hu
theorem kpi_list (hl : PE X l tl) (hK : X.K = K := by rfl) : PI X tg l (iList K tl) := by subst hK; exact pi_list hl
theorem kpi_tup (hl : PE X l tl) (hK : X.K = K := by rfl) : PI X tg l (iTup K tl) := by subst hK; exact pi_tup hl
theorem kpg_tup {es : List Expr} {k : Nat} {t : TGs} {n : Nat} (hc : X.calm = true) (h : PGs X es t) (hK : X.K = K := by rfl)
    (hn : (assignEach es X.env).length = n := by rfl) (hst : (assignEach es X.env).findIdx? (·.1) = none := by rfl) : PG X (.Tuple es k pos) (gTup K n t) := by subst hK; exact pg_tup hc h hn hst
theorem kpe_rev {k : Nat} {p1 p2 p3 : Pos} (he : PE X e te) (hK : X.K = K := by rfl) : PE X (.Subscript e (.Slice none none (some (.UnaryOp .USub (.Constant (.int 1) k p1) p2)) p3) pos) (tRevL K te) := by subst hK; exact pe_revL he
end
/-! ### data that may be compared -/
def Shp (n : Nat) (d : D) : Prop := d.canLay0 = true ∧ d.depth ≤ n
theorem Shp.shaped {n : Nat} {d : D} (h : Shp n d) (hn : n ≤ 64 := by decide) : SeqAt.shaped d = true := by
  unfold SeqAt.shaped
  rw [h.1, Bool.true_and]
  exact decide_eq_true (Nat.le_trans h.2 hn)
theorem shp_int {n : Nat} {i : Int} : Shp n (.int i) := by
  refine ⟨by simp only [PyData.canLay0], ?_⟩
  simp only [PyData.depth]; omega
theorem shp_bool {n : Nat} {b : Bool} : Shp n (.bool b) := by
  refine ⟨by simp only [PyData.canLay0], ?_⟩
  simp only [PyData.depth]; omega
theorem shp_none {n : Nat} : Shp n .none := by
  refine ⟨by simp only [PyData.canLay0], ?_⟩
  simp only [PyData.depth]; omega
theorem shp_all {n : Nat} : ∀ {ds : List D}, (∀ d ∈ ds, Shp n d) → PyData.canLayAll0 ds = true ∧ PyData.depthAll ds ≤ n
  | [], _ => ⟨by simp only [PyData.canLayAll0], by simp only [PyData.depthAll]; omega⟩
  | d :: ds, h => by
    obtain ⟨a, b⟩ := h d (List.mem_cons_self ..)
    obtain ⟨c, e⟩ := shp_all (ds := ds) fun x hx => h x (List.mem_cons_of_mem _ hx)
    refine ⟨?_, ?_⟩
    · simp only [PyData.canLayAll0, a, c, Bool.and_self]
    · simp only [PyData.depthAll]; omega
theorem shp_list {n : Nat} {ds : List D} (h : ∀ d ∈ ds, Shp n d) : Shp (n + 1) (.list ds) := by
  obtain ⟨a, b⟩ := shp_all h
  refine ⟨by simp only [PyData.canLay0, a], ?_⟩
  simp only [PyData.depth]; omega
theorem shp_tup {n : Nat} {ds : List D} (h : ∀ d ∈ ds, Shp n d) : Shp (n + 1) (.tuple ds) := by
  obtain ⟨a, b⟩ := shp_all h
  refine ⟨by simp only [PyData.canLay0, a], ?_⟩
  simp only [PyData.depth]; omega
theorem shp_map {α : Type} {n : Nat} {xs : List α} {g : α → D} (h : ∀ x, Shp n (g x)) : ∀ d ∈ xs.map g, Shp n d := fun d hd => by
  obtain ⟨x, _, rfl⟩ := List.mem_map.mp hd
  exact h x
theorem shp_ints {n : Nat} {ns : List Int} : Shp (n + 1) (.list (ns.map PyData.int)) := shp_list (shp_map fun _ => shp_int)
theorem shp_tints {n : Nat} {ns : List Int} : Shp (n + 1) (.tuple (ns.map PyData.int)) := shp_tup (shp_map fun _ => shp_int)
theorem eqv_self {n : Nat} {d : D} (h : Shp n d) : PyData.eqv d d = true := PySem.SeqAt.eqv_refl d h.1

section
variable {K : PySem.W.Frag} {δ δ' δ'' : List SV} {ta tb te : TE} {c : TT} {t u : TS} {d x y : D} {ds es : List D} {E : EndsD}
theorem wp_cut (C : List SV → Prop) (h : WP K t { E with nx := C } δ) (q : ∀ δ', C δ' → E.nx δ') : WP K t E δ := fun B0 H0 B H σ D L S =>
  h B0 H0 B H σ D ⟨fun σ' H' B' δ' S' z => L.nx σ' H' B' δ' S' (q δ' z), L.rt, L.bk, L.ct, L.rn, L.rs⟩ S
theorem ei_rngN {n : Nat} {i : Int} (h : ED K te δ (.int i)) (e : i = (n : Int)) (hn : n ≤ 1000000) : EI K (iRng1 (tCons te tNil)) δ ((List.range n).map fun k => PyData.int (k : Nat)) := by
  subst e
  refine EI.of (ei_rng1 h (by omega)) ?_
  unfold rngD
  rw [Int.toNat_natCast]
  congr 1
  funext k
  rw [Int.zero_add]
/-! ### expressions that give some datum -/
def EP (K : PySem.W.Frag) (te : TE) (δ : List SV) (P : D → Prop) : Prop := ∀ (B0 H0 B H : Hp) (σ : L2.St) (Q : VK), Sd K B0 H0 B H σ δ → (∀ v B' H' d, Stp B H B' H' → Dq K B' v d → P d → Q v H') → te σ H Q
theorem ED.ep (h : ED K te δ d) : EP K te δ (fun x => x = d) := fun B0 H0 B H σ Q S q => h B0 H0 B H σ Q S fun v B' H' s a => q v B' H' d s a rfl
def spP (K : PySem.W.Frag) (Pre : List D → Prop) (Post : List D → D → Prop) : Sp := fun vs H Q _ => ∃ B ds, Pre ds ∧ Bh B H ∧ DqAll K B vs ds ∧ ∀ v B' H' d, Stp B H B' H' → Dq K B' v d → Post ds d → Q v H'
theorem ep_call {ta : TA} {Pre : List D → Prop} {Post : List D → D → Prop} {X : XK} (h : EA K ta δ ds) (r : Pre ds) : EP K (tCall (spP K Pre Post) [] X ta) δ (Post ds) := fun B0 H0 B H σ Q S q =>
  h B0 H0 B H σ _ S fun vs B1 H1 s1 a => ⟨B1, ds, r, s1.bh, by rw [List.append_nil]; exact a, fun v B' H' d s2 b p => q v B' H' d (s1.trans s2) b p⟩
theorem wp_asgP {i : Nat} {P : D → Prop} (h : EP K te δ P) (q : ∀ d, P d → E.nx (δ.set i (.val d))) : WP K (tAsg te (gName i)) E δ := fun B0 H0 B H σ D L S =>
  h B0 H0 B H σ _ S fun v B1 H1 d s1 a p => L.nx _ H1 B1 _ ((S.step s1).setVal a) (q d p)
theorem wp_retP {P : D → Prop} (h : EP K te δ P) (q : ∀ d, P d → E.rt d) : WP K (tRet te) E δ := fun B0 H0 B H σ D L S =>
  h B0 H0 B H σ _ S fun v B1 H1 d s1 a p => L.rt v B1 H1 d (s1.hist S.hist) a (q d p)
end

theorem cx_K {CX : CXT} {P : Program} {w : World} {K : PySem.W.Frag} {mg : Str → Option Value} {base : Heap} {N : List Str} {q : Str} {sc : Scope} {f : Addr} {cd : Value} {A : Around} {outer : List Env} {s : Shared} {H : Hp} {E : XK} :
    (cxOf CX P w K mg base N q sc f cd A outer s H E).K = K := rfl
theorem nox_K {X : Cx} : X.nox.K = X.K := rfl
theorem blk_K {X : Cx} {s : Shared} {H : Hp} {sc : Scope} {e : Env} {fp : List Addr} : (X.blk s H sc e fp).K = X.K := rfl
/-! ### sizes -/
def Lt (k : Nat) (n : Int) : Prop := n.natAbs < 2 ^ k
theorem Lt.mono {a b : Nat} {n : Int} (h : Lt a n) (e : a ≤ b := by decide) : Lt b n := Nat.lt_of_lt_of_le h (Nat.pow_le_pow_right (by decide) e)
theorem Lt.mul {a b : Nat} {i j : Int} (h : Lt a i) (h' : Lt b j) : Lt (a + b) (i * j) := wide_lt h h'
theorem Lt.add {k : Nat} {i j : Int} (h : Lt k i) (h' : Lt k j) : Lt (k + 1) (i + j) := by
  unfold Lt at *
  rw [Nat.pow_succ]
  omega
theorem Lt.sub {k : Nat} {i j : Int} (h : Lt k i) (h' : Lt k j) : Lt (k + 1) (i - j) := by
  unfold Lt at *
  rw [Nat.pow_succ]
  omega
theorem Lt.neg {k : Nat} {i : Int} (h : Lt k i) : Lt k (-i) := by
  unfold Lt at *
  omega
theorem Lt.le {k : Nat} {i j : Int} (h : Lt k j) (e : i.natAbs ≤ j.natAbs) : Lt k i := Nat.lt_of_le_of_lt e h
theorem mulX {i j : Int} {a b : Nat} (h : Lt a i) (h' : Lt b j) (ha : 0 < a := by decide) (hb : 0 < b := by decide) (hl : a + b ≤ 1000000 := by decide) : CMulX i j := .inr (wide_mul h h' ha hb hl)
theorem mulL {i j : Int} (h : -(2 ^ 64) < i ∧ i < 2 ^ 64) : CMulX i j := .inl (.inl h)
theorem mulR {i j : Int} (h : -(2 ^ 64) < j ∧ j < 2 ^ 64) : CMulX i j := .inl (.inr h)
theorem divX {i j : Int} {k : Nat} (h : j ≠ 0) (hl : Lt k j) (hk : k ≤ 9000 := by decide) (h0 : 0 < k := by decide) : CDivX i j := ⟨h, Nat.lt_of_lt_of_le (PySem.Flt.log2_lt_of h0 hl) hk⟩
theorem powX {i j : Int} (h : 0 ≤ j ∧ j ≤ 1000000 ∧ i.natAbs < 2 ^ 64) : CPow i j := h
theorem gcd_pos {n m : Int} (h : m ≠ 0) : 0 < Nat.gcd n.natAbs m.natAbs := Nat.gcd_pos_of_pos_right _ (Int.natAbs_pos.mpr h)
theorem gcd_le {n m : Int} (h : m ≠ 0) : Nat.gcd n.natAbs m.natAbs ≤ m.natAbs := Nat.gcd_le_right _ (Int.natAbs_pos.mpr h)

/-! ### numbers -/
def numV (p : Int × Int) : D := .tuple [.int p.1, .int p.2]
theorem shp_num {n : Nat} {p : Int × Int} : Shp (n + 1) (numV p) := shp_tup fun d hd => by
  rcases List.mem_cons.mp hd with rfl | hd
  · exact shp_int
  · rcases List.mem_cons.mp hd with rfl | hd
    · exact shp_int
    · cases hd
/-- the divisor by which n / m is brought to lowest terms, m's sign with it -/
def dvs (n m : Int) : Int := if m < 0 then -(Nat.gcd n.natAbs m.natAbs : Nat) else (Nat.gcd n.natAbs m.natAbs : Nat)
def nrm (n m : Int) : Int × Int := (n.fdiv (dvs n m), m.fdiv (dvs n m))
theorem dvs_abs (n m : Int) : (dvs n m).natAbs = Nat.gcd n.natAbs m.natAbs := by
  unfold dvs
  split <;> omega
theorem dvs_ne {n m : Int} (h : m ≠ 0) : dvs n m ≠ 0 := by
  have := gcd_pos (n := n) h
  have e := dvs_abs n m
  omega
theorem dvs_dvdl (n m : Int) : dvs n m ∣ n := by
  rw [← Int.natAbs_dvd_natAbs, dvs_abs]
  exact Nat.gcd_dvd_left _ _
theorem dvs_dvdr (n m : Int) : dvs n m ∣ m := by
  rw [← Int.natAbs_dvd_natAbs, dvs_abs]
  exact Nat.gcd_dvd_right _ _
theorem fdiv_of_dvd {a b : Int} (h : b ∣ a) : a.fdiv b * b = a := Int.fdiv_mul_cancel h
theorem nrm_mul1 (n m : Int) : (nrm n m).1 * dvs n m = n := fdiv_of_dvd (dvs_dvdl n m)
theorem nrm_mul2 (n m : Int) : (nrm n m).2 * dvs n m = m := fdiv_of_dvd (dvs_dvdr n m)
theorem nrm_pos {n m : Int} (h : m ≠ 0) : 0 < (nrm n m).2 := by
  have e := nrm_mul2 n m
  have hd := dvs_ne (n := n) h
  by_cases hm : m < 0
  · have hd2 : dvs n m < 0 := by
      unfold dvs at hd ⊢
      rw [if_pos hm] at hd ⊢
      omega
    by_cases hz : 0 < (nrm n m).2
    · exact hz
    · have := Int.mul_nonneg_of_nonpos_of_nonpos (a := (nrm n m).2) (b := dvs n m) (by omega) (by omega)
      omega
  · have hd2 : 0 < dvs n m := by
      unfold dvs at hd ⊢
      rw [if_neg hm] at hd ⊢
      omega
    have hm2 : 0 < m := by omega
    exact Int.pos_of_mul_pos_left (by rw [e]; exact hm2) hd2
end DX

namespace DX
open PySem L2
variable [TabEnv]
def rIsNQ : R2 := fun x y H Q => y = .non ∧ Q (.bl (decide (x = .non))) H
def rNotNQ : R2 := fun x y H Q => y = .non ∧ Q (.bl (!decide (x = .non))) H
def rLenDQ : List V → Hp → VK → Prop := fun xs H Q => ∃ a kvs, xs = [V.ref a] ∧ Rd H a (.dK kvs) ∧ Q (.int kvs.length) H
def tTruQ (K : PySem.W.Frag) (ta : TE) : TT := fun σ H Q => ta σ H fun x H' => ∃ k, TruV K x H' k ∧ Q k H'
section
variable {X : Cx} {K : PySem.W.Frag}
theorem op_isNQ : OpR X (compareOp .Is) rIsNQ := op_isN
theorem op_notNQ : OpR X (compareOp .IsNot) rNotNQ := op_notN
theorem cr_lenDQ : CallR X (.builtin "len") rLenDQ := by
  intro pins s σ H xs us Q I r h
  obtain ⟨a, kvs, rfl, ha, q⟩ := h
  obtain ⟨u, rfl, ru⟩ := vals1 r
  cases ru
  exact d_len I ha fun t s' I' => ⟨.int kvs.length, H, I', ⟨t, rfl⟩, q⟩
theorem kpt_truth {a : Expr} {ta : TE} (ha : PE X a ta) (he : ∀ whole, isTrue a X.env whole = (do let v ← whole; standAt a.pos; holding [v] (truthy v))) (hK : X.K = K := by rfl) : PT X a (tTruQ K ta) := by subst hK; exact pt_truth ha he
theorem kpi_zip {e e2 : Expr} {ta : TA} {p pos tpos : Pos} {elts : List Expr} {kk : Nat} (hg : Gl X "zip") (hm : X.mg "zip" = none) (ha : PA X [e, e2] ta) (hK : X.K = K := by rfl)
    (hs : starEach [e, e2] X.env = (false, eval e X.env) :: starEach [e2] X.env := by rfl) (hpl : (backTo pos (starEach [e2] X.env)).any (·.1) = false := by rfl) : PI X (.Tuple elts kk tpos) (.Call (.Name "zip" p) [e, e2] [] pos) (iZip K ta) := by subst hK; exact pi_zip hg hm ha hs hpl
theorem kpi_enum {e : Expr} {ta : TA} {p pos tpos : Pos} {elts : List Expr} {kk : Nat} (hg : Gl X "enumerate") (hm : X.mg "enumerate" = none) (ha : PA X [e] ta) (hK : X.K = K := by rfl) (hs : starEach [e] X.env = [(false, eval e X.env)] := by rfl) :
    PI X (.Tuple elts kk tpos) (.Call (.Name "enumerate" p) [e] [] pos) (iEnum K ta) := by subst hK; exact pi_enum hg hm ha hs
end
section
variable {K : PySem.W.Frag} {δ δ' : List SV} {ta tb te : TE} {c : TT} {t u : TS} {d x y : D} {ds es : List D} {E : EndsD}
def isNone : D → Bool
  | .none => true
  | _ => false
theorem dq_none {H : Hp} {v : V} (h : Dq K H v d) : decide (v = .non) = isNone d := by
  cases h with
  | non => rfl
  | _ => exact decide_eq_false fun z => nomatch z
theorem ed_isN (h : ED K ta δ d) : ED K (tOp rIsNQ ta (tC .non)) δ (.bool (isNone d)) := fun B0 H0 B H σ Q S q =>
  h B0 H0 B H σ _ S fun v B1 H1 s1 a => ⟨rfl, by rw [dq_none a]; exact q _ B1 H1 s1 (.bl _)⟩
theorem ed_notN (h : ED K ta δ d) : ED K (tOp rNotNQ ta (tC .non)) δ (.bool (!isNone d)) := fun B0 H0 B H σ Q S q =>
  h B0 H0 B H σ _ S fun v B1 H1 s1 a => ⟨rfl, by rw [dq_none a]; exact q _ B1 H1 s1 (.bl _)⟩
/-- truth -/
def truD : D → Option Bool
  | .none => some false
  | .bool b => some b
  | .int i => some (i != 0)
  | .list ds => some (!ds.isEmpty)
  | .tuple ds => some (!ds.isEmpty)
  | _ => none
theorem emp_len {α β : Type} {xs : List α} {ys : List β} (h : xs.length = ys.length) : xs.isEmpty = ys.isEmpty := by
  cases xs <;> cases ys <;> first | rfl | (simp at h)
theorem et_truth {b : Bool} (h : ED K te δ d) (e : truD d = some b) : ET K (tTruQ K te) δ b := fun B0 H0 B H σ Q S q =>
  h B0 H0 B H σ _ S fun v B1 H1 s1 a => by
    refine ⟨b, ?_, q B1 H1 s1⟩
    cases a with
    | non => cases e; rfl
    | bl c => cases e; rfl
    | int i => cases e; rfl
    | str z => cases e
    | lst hs hA =>
      cases e
      exact .inl ⟨_, s1.bh.seq hs, by rw [emp_len hA.len]⟩
    | tup hs hA =>
      cases e
      exact .inr (.inl ⟨_, sqT_up s1.bh hs, by rw [emp_len hA.len]⟩)
    | dct hs hA => cases e
/-- len of a dict -/
theorem ed_lenD {kvs : List (D × D)} (h : ED K te δ (.dict kvs)) : ED K (tCB rLenDQ (tCons te tNil)) δ (.int kvs.length) :=
  ed_cb (ea_cons h ea_nil) fun B H vs Q bh a q => by
    obtain ⟨v, rfl, b⟩ := a.one
    cases b with
    | dct hs hA => exact ⟨_, _, rfl, rd_up bh hs, q _ B H (.refl bh) (by rw [hA.len]; exact .int _)⟩
/-- a range's item, two lists at once, the items with their places -/
theorem stp_tup {B H : Hp} {T : Addr} {vs : List V} (bh : Bh B H) (n : H T = none) : Stp B H (upd B T (.tup vs)) (upd H T (.tup vs)) := .new bh n
def zipD (ds es : List D) : List D := (ds.zip es).map fun p => .tuple [p.1, p.2]
theorem ei_zip (h : ED K ta δ (.list ds)) (h' : ED K tb δ (.list es)) : EI K (iZip K (tCons ta (tCons tb tNil))) δ (zipD ds es) := fun B0 H0 B H σ R S q =>
  h B0 H0 B H σ _ S fun v B1 H1 s1 a => h' B0 H0 B1 H1 σ _ (S.step s1) fun w B2 H2 s2 b => by
    cases a with
    | lst hs hA =>
      cases b with
      | lst ks kA =>
        have hA2 := DqAll.up s2.bb _ _ hA
        have hs2 := s2.bb.seq hs
        refine ⟨_, _, _, _, rfl, s2.bh.seq hs2, s2.bh.seq ks, q _ B2 H2 (s1.trans s2) fun B H i e1 e2 => ⟨fun hi => ?_, fun hi => ?_⟩⟩
        · have hl : i < (ds.zip es).length := by
            unfold zipD at hi
            rwa [List.length_map] at hi
          rw [List.length_zip] at hl
          obtain ⟨x, g1, g2⟩ := hA2.get (List.getElem?_eq_getElem (show i < ds.length by omega))
          obtain ⟨y, k1, k2⟩ := kA.get (List.getElem?_eq_getElem (show i < es.length by omega))
          refine ⟨⟨_, _, x, y, (e1.trans e2).seq hs2, (e1.trans e2).seq ks, g1, k1⟩, fun z H' yl => ?_⟩
          obtain ⟨T, x', y', rfl, nT, rfl, f1, f2⟩ := yl
          have ex := (f1 _ ((e1.trans e2).seq hs2)).symm.trans g1
          have ey := (f2 _ ((e1.trans e2).seq ks)).symm.trans k1
          cases ex; cases ey
          have sn := same_new (o := .tup [x, y]) (e2.free nT)
          refine ⟨upd B T (.tup [x, y]), _, .new e2 nT, ?_, .tup (.inl (.inl upd_same)) (.cons (Dq.up (e1.trans sn) _ _ g2) (.cons (Dq.up (e1.trans sn) _ _ k2) .nil))⟩
          unfold zipD
          have h1 : i < ds.length := by omega
          have h2 : i < es.length := by omega
          have hz : (ds.zip es)[i]? = some (ds[i], es[i]) := by
            rw [List.getElem?_zip_eq_some]
            exact ⟨List.getElem?_eq_getElem h1, List.getElem?_eq_getElem h2⟩
          rw [List.getElem?_map, hz]
          rfl
        · refine ⟨_, _, (e1.trans e2).seq hs2, (e1.trans e2).seq ks, ?_⟩
          unfold zipD at hi
          rw [List.length_map, List.length_zip] at hi
          rw [hA2.len, kA.len]
          omega
def enumD (ds : List D) : List D := (List.range ds.length).map fun i => .tuple [.int (i : Nat), ds.getD i .none]
theorem ei_enum (h : ED K ta δ (.list ds)) : EI K (iEnum K (tCons ta tNil)) δ (enumD ds) := fun B0 H0 B H σ R S q =>
  h B0 H0 B H σ _ S fun v B1 H1 s1 a => by
    cases a with
    | lst hs hA =>
      refine ⟨_, _, rfl, s1.bh.seq hs, q _ B1 H1 s1 fun B H i e1 e2 => ⟨fun hi => ?_, fun hi => ?_⟩⟩
      · have hl : i < ds.length := by
          unfold enumD at hi
          rwa [List.length_map, List.length_range] at hi
        obtain ⟨x, g1, g2⟩ := hA.get (List.getElem?_eq_getElem hl)
        refine ⟨⟨_, x, (e1.trans e2).seq hs, g1⟩, fun z H' yl => ?_⟩
        obtain ⟨T, x', rfl, nT, rfl, f1⟩ := yl
        have ex := (f1 _ ((e1.trans e2).seq hs)).symm.trans g1
        cases ex
        have sn := same_new (o := .tup [.int (i : Nat), x]) (e2.free nT)
        refine ⟨upd B T (.tup [.int (i : Nat), x]), _, .new e2 nT, ?_, .tup (.inl (.inl upd_same)) (.cons (.int _) (.cons (Dq.up (e1.trans sn) _ _ g2) .nil))⟩
        unfold enumD
        rw [List.getElem?_map, List.getElem?_range hl]
        show some (PyData.tuple [.int (i : Nat), ds.getD i .none]) = _
        rw [List.getD_eq_getElem?_getD, List.getElem?_eq_getElem hl]
        rfl
      · refine ⟨_, (e1.trans e2).seq hs, ?_⟩
        unfold enumD at hi
        rw [List.length_map, List.length_range] at hi
        rw [hA.len]; omega
theorem tyes_true {σ : L2.St} {H : Hp} {Q : Bool → Hp → Prop} (h : Q true H) : tYes σ H Q := h
/-- a comprehension with a pair of names -/
theorem en_lc2 {α : Type} {xs : List α} {g1 g2 : α → D} {wi : TI} {i j : Nat} {f : α → D} (hij : i ≠ j) (hw : EI K wi δ (xs.map fun x => .tuple [g1 x, g2 x])) (hl : xs.length ≤ sizeLine)
    (he : ∀ x, x ∈ xs → ED K te ((((δ.set j .no).set i .no).set i (.val (g1 x))).set j (.val (g2 x))) (f x)) : EN K (tLc wi (gTup K 2 (gCons (gName i) (gCons (gName j) gNil))) tYes te [i, j]) δ (xs.map f) := fun B0 H0 B H σ Q S q =>
  hw B0 H0 B H σ _ S fun J B1 H1 s1 yd L nL => by
    have S1 := S.step s1
    have hfoot := new_foot (S := S1) nL
    have h0L := S1.hist.hh.free nL
    refine ⟨fun k m H' => m = xs.length - k ∧ k ≤ xs.length ∧ ∃ B' acc, Sd K B1 H0 B' H' σ δ ∧ B' L = none ∧ H' L = some (.lst acc) ∧ DqAll K B' acc ((xs.take k).map f) ∧ Stp B1 H1 B' H', ⟨_, rfl, Nat.zero_le _, B1, [], ?_, s1.bh.free nL, upd_same, ?_, .newOwn s1.bh nL⟩, ?_⟩
    · exact (S1.past S1.hist.bb (Sam.refl _)).step (.newOwn s1.bh nL)
    · rw [List.take_zero]; exact .nil
    rintro k m H' ⟨rfl, hk, B', acc, S', bL, hL, hA, sp⟩
    obtain ⟨y1, y2⟩ := yd B' H' k S'.hist.bb S'.hist.bh
    by_cases hlt : k < xs.length
    · obtain ⟨go, yy⟩ := y1 (by rw [List.length_map]; exact hlt)
      refine .inr ⟨go, fun H'' => ∃ B'' acc, Sd K B1 H0 B'' H'' σ δ ∧ B'' L = none ∧ H'' L = some (.lst acc) ∧ DqAll K B'' acc ((xs.take (k + 1)).map f) ∧ Stp B1 H1 B'' H'', fun H'' z => ⟨xs.length - (k + 1), by omega, rfl, hlt, z⟩, fun x H2 yl => ?_⟩
      obtain ⟨B2, d', s2, ed', dp⟩ := yy x H2 yl
      have ed : xs[k]? = some xs[k] := List.getElem?_eq_getElem hlt
      have eg : d' = .tuple [g1 xs[k], g2 xs[k]] := by
        rw [List.getElem?_map, ed] at ed'
        exact (Option.some.inj ed').symm
      subst eg
      have hm : xs[k] ∈ xs := List.getElem_mem hlt
      have hLne : H' L ≠ none := by rw [hL]; exact fun z => nomatch z
      have S2 := S'.step s2
      cases dp with
      | tup hs hA2 =>
        obtain ⟨v1, v2, rfl, a1, a2⟩ := hA2.two
        have S3 : Sd K B1 H0 B2 H2 ((((σ.set j none).set i none).set i (some v1)).set j (some v2)) ((((δ.set j .no).set i .no).set i (.val (g1 xs[k]))).set j (.val (g2 xs[k]))) := (((S2.forget (i := j) (o := none)).forget (i := i) (o := none)).setVal a1).setVal a2
        refine ⟨_, _, rfl, sqT_up s2.bh hs, rfl, v1, [v2], rfl, v2, [], rfl, rfl, ?_, ?_⟩
        · show ((((((σ.set j none).set i none).set i (some v1)).set j (some v2)).set j none).set i none) = (σ.set j none).set i none
          rw [List.set_set, List.set_set, List.set_comm _ _ hij, List.set_set, List.set_set]
        refine tyes_true ?_
        dsimp only
        rw [if_pos rfl]
        refine he _ hm B1 H0 B2 H2 _ _ S3 fun v B4 H4 s4 dv => ?_
        have st := s2.trans s4
        have hL4 : H4 L = some (.lst acc) := st.hh.at hL
        have bL4 : B4 L = none := st.fr L hLne bL
        have hA4 := DqAll.up st.bb _ _ hA
        refine ⟨acc, hL4, ?_, B4, acc ++ [v], ?_, bL4, upd_same, ?_, ?_⟩
        · have h1 := hA.len
          rw [List.length_map, List.length_take] at h1
          omega
        · exact (S'.step st).updFree bL4 h0L hfoot (.inr ⟨_, hL4, nt_lst⟩) nt_lst.1
        · rw [List.take_add_one, ed, List.map_append]
          exact hA4.app (.cons dv .nil)
        · exact (sp.trans st).updNew nL bL4 ⟨_, hL4, nt_lst⟩ nt_lst.1
    · have e : k = xs.length := by omega
      subst e
      rw [List.take_length] at hA
      exact .inl ⟨y2 (by rw [List.length_map]), q L acc B' H' (s1.trans sp) (s1.hh.free nL) bL hL hA⟩
/-! ### dicts -/
theorem wp_newDict {i : Nat} (q : E.nx (δ.set i (.own (.m [])))) : WP K (tAsg tDNewK (gName i)) E δ := fun B0 H0 B H σ D L S => fun p np => by
  have s1 : Stp B H B (upd H p (.dK [])) := .newOwn S.hist.bh np
  refine L.nx _ _ B _ ((S.step s1).set (x := .own (.m [])) (show SlotOk K B (upd H p (.dK [])) H0 (some (.ref p)) (.own (.m [])) from ⟨p, .dK [], rfl, upd_same, S.hist.bh.free np, S.hist.hh.free np, [], rfl, .nil⟩) fun z mz => by
    rw [List.mem_singleton.mp mz]
    exact new_apart S np) q
theorem dqkv_app {B : Hp} : ∀ {vs ws : List (Key × V)} {ds es : List (D × D)}, DqKv K B vs ds → DqKv K B ws es → DqKv K B (vs ++ ws) (ds ++ es)
  | _, _, [], _, h, h' => by cases h; exact h'
  | _, _, d :: ds, _, h, h' => by
    cases h with
    | cons h1 h2 h3 => exact .cons h1 h2 (dqkv_app h3 h')
theorem dqkv_new {B : Hp} {k : Int} : ∀ {vs : List (Key × V)} {ds : List (D × D)}, DqKv K B vs ds → (∀ p ∈ ds, p.1 ≠ .int k) → valV vs (Sum.inl k) = none
  | _, [], h, _ => by cases h; rfl
  | _, d :: ds, h, hn => by
    cases h with
    | @cons key v vs e d' ds h1 h2 h3 =>
      rw [valV_neg, dqkv_new h3 fun p hp => hn p (List.mem_cons_of_mem _ hp)]
      intro z
      have z : key = Sum.inl k := z
      subst z
      exact hn _ (List.mem_cons_self ..) (by cases h1; rfl)
/-- d[k] = v, k a new int -/
theorem wp_dputNew {i : Nat} {k : Int} {kvs : List (D × D)} (e : δ[i]? = some (.own (.m kvs))) (hk : ED K tb δ (.int k)) (hv : ED K te δ d) (hn : ∀ p ∈ kvs, p.1 ≠ .int k) (hl : kvs.length < sizeLine) (q : E.nx (δ.set i (.own (.m (kvs ++ [(.int k, d)]))))) :
    WP K (sDPut (tVar i) tb te) E δ := fun B0 H0 B H σ D L S =>
  hv B0 H0 B H σ _ S fun v B1 H1 s1 a => by
    have S1 := S.step s1
    obtain ⟨p, vs, a1, hp, bp, h0, dp⟩ := S1.slotMap e
    refine ⟨_, a1, hk B0 H0 B1 H1 σ _ S1 fun w B2 H2 s2 b => ?_⟩
    cases Dq.int_inv b
    have S2 := S1.step s2
    obtain ⟨p', vs', a1', hp', bp', h0', dp'⟩ := S2.slotMap e
    rw [a1] at a1'; cases a1'
    refine ⟨p, _, rfl, DPut.k (k := Sum.inl k) hp' (by rw [dp'.len]; exact hl), ?_⟩
    rw [putK_new _ (dqkv_new dp' hn)]
    exact L.nx _ _ B2 _ (own_upd (yo := .m _) S2 e a1 bp' h0' ⟨_, rfl, dqkv_app dp' (.cons (.int _) (Dq.up s2.bb _ _ a) .nil)⟩) q
theorem Sd.freezeD {B0 H0 B H : Hp} {σ : L2.St} {i : Nat} {kvs : List (D × D)} (S : Sd K B0 H0 B H σ δ) (e : δ[i]? = some (.own (.m kvs))) : ∃ B', Sd K B0 H0 B' H σ (δ.set i (.val (.dict kvs))) ∧ Sam B B' := by
  obtain ⟨p, vs, a1, hp, bp, h0, dp⟩ := S.slotMap e
  obtain ⟨k1, k2⟩ := Stp.know (o := .dK vs) S.hist.bh bp hp
  refine ⟨upd B p (.dK vs), ⟨⟨S.hist.bb.trans k1, k2, S.hist.hh, fun a q z => ?_⟩, by rw [List.length_set]; exact S.len, fun j s ej => ?_, S.apart.less e fun o eo a ma => by cases ma⟩, k1⟩
  · have : a ≠ p := fun e => by subst e; exact q h0
    rw [upd_ne this]; exact S.hist.fr a q z
  · rcases get_set ej with ⟨rfl, rfl⟩ | ⟨hne, ej⟩
    · exact ⟨_, a1, .ref p, rfl, .dct (.inl upd_same) (DqKv.up k1 _ _ dp)⟩
    · obtain ⟨o, eo, ok⟩ := S.ok j s ej
      refine ⟨o, eo, ?_⟩
      cases s with
      | no => exact True.intro
      | ob C fs => obtain ⟨pp, dx, ws, e1, e2, e3, e4⟩ := ok; exact ⟨pp, dx, ws, e1, e2, e3, e4.up k1⟩
      | big R F => exact big_step ok (own_apart S e a1 j _ o hne ej eo) k1 (fun a z => upd_ne z) (fun _ _ => rfl)
      | val d => obtain ⟨v, e1, e2⟩ := ok; exact ⟨v, e1, Dq.up k1 _ _ e2⟩
      | own es =>
        obtain ⟨pp, ws, e1, e2, e3, e4, e5⟩ := ok
        have hne2 : pp ≠ p := fun z => by
          subst z
          subst e1
          exact S.apartOwn i j pp (.m kvs) es hne e ej a1 eo
        exact ⟨pp, ws, e1, e2, by rw [upd_ne hne2]; exact e3, e4, e5.up k1⟩
theorem wp_freezeD (i : Nat) {kvs : List (D × D)} (e : δ[i]? = some (.own (.m kvs))) (h : WP K t E (δ.set i (.val (.dict kvs)))) : WP K t E δ := fun B0 H0 B H σ D L S => by
  obtain ⟨B', S', _⟩ := S.freezeD e
  exact h B0 H0 B' H σ D L S'
end
/-- a def by a promise of some datum -/
theorem ok_wpP {P : Program} {w : World} {K : PySem.W.Frag} {mg : Str → Option Value} {base : Heap} {x qual : Str} {st : Stmt} {f : Addr} {fd : FuncData} {N ps : List Str} {k : Nat} {Pre : List D → Prop} {Post : List D → D → Prop} (F : Fun K x qual st f fd) (S : FnScope N ps (defScope st)) (len : ∀ ds, Pre ds → ds.length = ps.length)
    (hb : ∀ (cdv : Value), fd.code = cdv → ∀ (A : Around) (outer : List Env) (s : Shared) (H : Hp) (E : XK), Room k (A.deeper (PyProof.Rows.envOfC qual (defScope st) s.heap.objs.size f cdv)) →
      ∃ t, PSs (cxOf CX0 P w K mg base N qual (defScope st) f cdv A outer s H E).nox (defBody st) t ∧ ∀ ds, Pre ds → WP K t { nx := fun _ => Post ds .none, rt := fun d' => Post ds d' } (startD N ds)) : FnOk P w K mg base CX0 (k + 1) f fd ps (spP K Pre Post) := by
  refine F.okC S (fun vs H Q E h => ?_) (fun cdv hcv A outer s H vs Q E hr h => ?_)
  · obtain ⟨B, ds, r, bh, a, _⟩ := h
    rw [a.len]; exact len ds r
  · obtain ⟨t, ht, q⟩ := hb cdv hcv A outer s H E hr
    refine ⟨t, ht, ?_⟩
    obtain ⟨B, ds, r, bh, a, hq⟩ := h
    refine q ds r B H B H _ _ ⟨fun σ' H' B' δ' S' e => ?_, fun v B' H' d' hh dv e => ?_, fun _ _ _ _ _ z => z.elim, fun _ _ _ _ _ z => z.elim, fun _ _ _ _ _ _ _ _ _ _ z => z.elim, fun _ _ _ _ _ _ _ _ z => z.elim⟩ (start_sd bh a)
    · exact hq _ B' H' _ ⟨S'.hist.bb, S'.hist.bh, S'.hist.hh, S'.hist.fr⟩ .non e
    · exact hq v B' H' _ ⟨hh.bb, hh.bh, hh.hh, hh.fr⟩ dv e
end DX

namespace DX
open PySem L2
variable [TabEnv]
/-- a walk over a list or a tuple -/
def iSeq (K : PySem.W.Frag) (tl : TE) : TI := fun σ H R => iList K tl σ H R ∨ iTup K tl σ H R
theorem kpi_seq {X : Cx} {K : PySem.W.Frag} {tg l : Expr} {tl : TE} (hl : PE X l tl) (hK : X.K = K := by rfl) : PI X tg l (iSeq K tl) := by
  subst hK
  exact ⟨fun pins s σ H R I h => h.elim (fun h => (pi_list (tg := tg) hl).run pins s σ H R I h) fun h => (pi_tup (tg := tg) hl).run pins s σ H R I h⟩
theorem dqall_erase {K : PySem.W.Frag} {B : Hp} : ∀ (k : Nat) {vs : List V} {ds : List D}, DqAll K B vs ds → DqAll K B (vs.eraseIdx k) (ds.eraseIdx k)
  | _, _, [], h => by cases h; exact .nil
  | 0, _, d :: ds, h => by
    cases h with
    | cons h1 h2 => exact h2
  | k + 1, _, d :: ds, h => by
    cases h with
    | cons h1 h2 => exact .cons h1 (dqall_erase k h2)
section
variable {K : PySem.W.Frag} {δ δ' : List SV} {ta tb te : TE} {c : TT} {t u : TS} {d x y : D} {ds es : List D} {E : EndsD}
theorem ei_seq (h : ED K te δ x) (e : itemsD x = some ds) : EI K (iSeq K te) δ ds := by
  cases x with
  | list xs =>
    have e : xs = ds := Option.some.inj e
    subst e
    exact fun B0 H0 B H σ R S q => .inl (ei_list h B0 H0 B H σ R S q)
  | tuple xs =>
    have e : xs = ds := Option.some.inj e
    subst e
    exact fun B0 H0 B H σ R S q => .inr (ei_tup h B0 H0 B H σ R S q)
  | _ => cases e
def Scal : D → Prop
  | .none => True
  | .bool _ => True
  | .int _ => True
  | _ => False
theorem Scal.dq {B B' : Hp} {v : V} (s : Scal d) (h : Dq K B v d) : Dq K B' v d := by
  cases h with
  | non => exact .non
  | bl b => exact .bl b
  | int i => exact .int i
  | str x => exact .str x
  | lst _ _ => exact s.elim
  | tup _ _ => exact s.elim
  | dct _ _ => exact s.elim
/-- an owned list is read by an expression whose datum is no list -/
theorem ep_thaw {i : Nat} {P : D → Prop} (e : δ[i]? = some (.own (.l ds))) (h : EP K te (δ.set i (.val (.list ds))) P) (hs : ∀ d, P d → Scal d) : EP K te δ P := fun B0 H0 B H σ Q S q => by
  obtain ⟨p, vs, a1, hp, bp, h0, dp⟩ := S.slotOwn e
  obtain ⟨k1, k2⟩ := Stp.know (o := .lst vs) S.hist.bh bp hp
  have S2 := S.freezeAt e a1 hp bp h0 dp
  refine h B0 H0 _ H σ Q S2 fun v B2 H2 d s2 dv pd => ?_
  refine q v (fun a => if a = p then none else B2 a) H2 d ⟨fun a o ea => ?_, ⟨fun a o ea => ?_, s2.bh.tb⟩, s2.hh, fun a ha hb => ?_⟩ ((hs d pd).dq dv) pd
  · have : a ≠ p := fun z => by subst z; rw [bp] at ea; cases ea
    rw [if_neg this]
    exact (k1.trans s2.bb) _ _ ea
  · by_cases z : a = p
    · rw [if_pos z] at ea; cases ea
    · rw [if_neg z] at ea; exact s2.bh.sm _ _ ea
  · by_cases z : a = p
    · rw [if_pos z]
    · rw [if_neg z]
      exact s2.fr a ha (by rw [upd_ne z]; exact hb)
/-- a = b, b's list is owned: b is forgotten -/
theorem wp_move {i j : Nat} {xo : OD} (hij : i ≠ j) (e : δ[j]? = some (.own xo)) (q : E.nx ((δ.set j .no).set i (.own xo))) : WP K (tAsg (tVar j) (gName i)) E δ := fun B0 H0 B H σ D L S => by
  obtain ⟨p, u, a1, hp, bp, h0, rep⟩ := S.slotObj e
  refine ⟨_, a1, L.nx _ H B _ ?_ q⟩
  have e1 : σ.set i (some (.ref p)) = (σ.set j (some (.ref p))).set i (some (.ref p)) := by
    have hj : j < σ.length := (List.getElem?_eq_some_iff.mp a1).1
    have : σ.set j (some (.ref p)) = σ := by
      apply List.ext_getElem?
      intro k
      by_cases hk : j = k
      · subst hk
        rw [List.getElem?_set_self hj, a1]
      · rw [List.getElem?_set_ne hk]
    rw [this]
  rw [e1]
  refine (S.forget (i := j) (o := some (.ref p))).set (x := .own xo) (show SlotOk K B H H0 (some (.ref p)) (.own xo) from ⟨p, u, rfl, hp, bp, h0, rep⟩) fun a ma k t q' hk e2 e3 => ?_
  rw [List.mem_singleton.mp ma]
  rcases get_set e2 with ⟨_, rfl⟩ | ⟨hjk, e2⟩
  · exact fun z => by cases z
  · rw [List.getElem?_set_ne hjk] at e3
    exact own_apart S e a1 k t q' hjk e2 e3
/-- y = xs.pop(k), xs owned -/
theorem wp_popAt {i j : Nat} {n : Int} {k : Nat} (e : δ[i]? = some (.own (.l ds))) (hij : i ≠ j) (hn : ED K te δ (.int n)) (hk : n = (k : Nat)) (hkl : k < 2 ^ 62) (hd : ds[k]? = some d) (q : E.nx ((δ.set i (.own (.l (ds.eraseIdx k)))).set j (.val d))) :
    WP K (tAsg (tBM K "list" rPopAt (tVar i) (tCons te tNil)) (gName j)) E δ := fun B0 H0 B H σ D L S => by
  obtain ⟨p, vs, a1, hp, bp, h0, dp⟩ := S.slotOwn e
  refine ⟨_, a1, .inl ⟨rfl, vs, .inl (.inl hp)⟩, hn B0 H0 B H σ _ S fun v B1 H1 s1 a => ?_⟩
  cases Dq.int_inv a
  have S1 := S.step s1
  obtain ⟨p', vs', a1', hp', bp', h0', dp'⟩ := S1.slotOwn e
  rw [a1] at a1'; cases a1'
  obtain ⟨y, hy, dy⟩ := dp'.get hd
  subst hk
  have hlt : k < vs'.length := (List.getElem?_eq_some_iff.mp hy).1
  refine ⟨p, vs', (k : Nat), k, y, rfl, rfl, hp', by omega, by omega, PySem.seqIndex_of (by omega) (by omega), hy, L.nx _ _ B1 _ ?_ q⟩
  have S2 := own_upd (yo := .l (ds.eraseIdx k)) (u := .lst (vs'.eraseIdx k)) S1 e a1 bp' h0' ⟨_, rfl, ?_⟩
  · exact S2.setVal dy
  · exact dqall_erase k dp'
end
end DX
namespace DX
open PySem L2
variable [TabEnv]
/-- a promise with a ghost -/
def spG {G : Type} (K : PySem.W.Frag) (Pre : G → List D → Prop) (Post : G → D → Prop) : Sp := fun vs H Q _ => ∃ B ds g, Pre g ds ∧ Bh B H ∧ DqAll K B vs ds ∧ ∀ v B' H' d, Stp B H B' H' → Dq K B' v d → Post g d → Q v H'
theorem ep_callG {G : Type} {K : PySem.W.Frag} {δ : List SV} {ds : List D} {ta : TA} {Pre : G → List D → Prop} {Post : G → D → Prop} {X : XK} (g : G) (h : EA K ta δ ds) (r : Pre g ds) : EP K (tCall (spG K Pre Post) [] X ta) δ (Post g) := fun B0 H0 B H σ Q S q =>
  h B0 H0 B H σ _ S fun vs B1 H1 s1 a => ⟨B1, ds, g, r, s1.bh, by rw [List.append_nil]; exact a, fun v B' H' d s2 b p => q v B' H' d (s1.trans s2) b p⟩
theorem ok_wpG {G : Type} {P : Program} {w : World} {K : PySem.W.Frag} {mg : Str → Option Value} {base : Heap} {x qual : Str} {st : Stmt} {f : Addr} {fd : FuncData} {N ps : List Str} {k : Nat} {Pre : G → List D → Prop} {Post : G → D → Prop} (F : Fun K x qual st f fd) (S : FnScope N ps (defScope st)) (len : ∀ g ds, Pre g ds → ds.length = ps.length)
    (hb : ∀ (cdv : Value), fd.code = cdv → ∀ (A : Around) (outer : List Env) (s : Shared) (H : Hp) (E : XK), Room k (A.deeper (PyProof.Rows.envOfC qual (defScope st) s.heap.objs.size f cdv)) →
      ∃ t, PSs (cxOf CX0 P w K mg base N qual (defScope st) f cdv A outer s H E).nox (defBody st) t ∧ ∀ g ds, Pre g ds → WP K t { nx := fun _ => Post g .none, rt := fun d' => Post g d' } (startD N ds)) : FnOk P w K mg base CX0 (k + 1) f fd ps (spG K Pre Post) := by
  refine F.okC S (fun vs H Q E h => ?_) (fun cdv hcv A outer s H vs Q E hr h => ?_)
  · obtain ⟨B, ds, g, r, bh, a, _⟩ := h
    rw [a.len]; exact len g ds r
  · obtain ⟨t, ht, q⟩ := hb cdv hcv A outer s H E hr
    refine ⟨t, ht, ?_⟩
    obtain ⟨B, ds, g, r, bh, a, hq⟩ := h
    refine q g ds r B H B H _ _ ⟨fun σ' H' B' δ' S' e => ?_, fun v B' H' d' hh dv e => ?_, fun _ _ _ _ _ z => z.elim, fun _ _ _ _ _ z => z.elim, fun _ _ _ _ _ _ _ _ _ _ z => z.elim, fun _ _ _ _ _ _ _ _ z => z.elim⟩ (start_sd bh a)
    · exact hq _ B' H' _ ⟨S'.hist.bb, S'.hist.bh, S'.hist.hh, S'.hist.fr⟩ .non e
    · exact hq v B' H' _ ⟨hh.bb, hh.bh, hh.hh, hh.fr⟩ dv e
/-- for i, x in enumerate(..) -/
theorem wp_forE {α : Type} {xs : List α} {g : α → D} {K : PySem.W.Frag} {δ : List SV} {t : TS} {E : EndsD} {wi : TI} {i j : Nat} (I : Nat → List SV → Prop) (hw : EI K wi δ (enumD (xs.map g))) (h0 : I 0 δ)
    (hs : ∀ k x δ', xs[k]? = some x → I k δ' → WP K t { E with nx := I (k + 1), ct := I (k + 1), bk := E.nx } ((δ'.set i (.val (.int (k : Nat)))).set j (.val (g x)))) (hd : ∀ δ', I xs.length δ' → E.nx δ') : WP K (tFor wi (gTup K 2 (gCons (gName i) (gCons (gName j) gNil))) t) E δ := by
  have hl : (enumD (xs.map g)).length = xs.length := by unfold enumD; rw [List.length_map, List.length_range, List.length_map]
  refine wp_for I hw h0 (fun k d δ' e ik => ?_) (by rw [hl]; exact hd)
  have hk : k < xs.length := by
    have := (List.getElem?_eq_some_iff.mp e).1
    rwa [hl] at this
  unfold enumD at e
  rw [List.getElem?_map, List.getElem?_range (by rw [List.length_map]; exact hk)] at e
  have e2 : d = .tuple [.int (k : Nat), g xs[k]] := by
    have := Option.some.inj e
    rw [← this]
    show PyData.tuple [.int (k : Nat), (xs.map g).getD k .none] = _
    rw [List.getD_eq_getElem?_getD, List.getElem?_map, List.getElem?_eq_getElem hk]
    rfl
  subst e2
  exact ⟨_, gd_tup (gds_cons gd_name (gds_cons gd_name gds_nil)) rfl, hs k xs[k] δ' (List.getElem?_eq_getElem hk) ik⟩
theorem zipD_ints (a b : List Int) : zipD (a.map PyData.int) (b.map PyData.int) = (a.zip b).map fun x => .tuple [.int x.1, .int x.2] := by
  unfold zipD
  rw [List.zip_map, List.map_map]
  rfl
def listI (x : List Int) : D := .list (x.map PyData.int)
end DX

namespace DX
open PySem L2
variable [TabEnv]
/-- locked, or locked already -/
def tLk (t : TS) : TS := fun D σ H => tLock t D σ H ∨ t D σ H
theorem ps_lk {X : Cx} {st : Stmt} {t : TS} (h : PS X st t) : PS X st (tLk t) := ⟨fun pins s σ H D I w => w.elim (fun w => (ps_lock h).run pins s σ H D I w) fun w => h.run pins s σ H D I w⟩
section
variable {K : PySem.W.Frag} {B : Hp} {d : Addr} {od : Obj} {ks : List (Key × V)}
theorem rd_frz (hd : B d = some (.dK ks)) {a : Addr} {w : HO} (h : Rd B a w) : Rd (upd B d (.frz od (.dK ks))) a w := by
  by_cases e : a = d
  · subst e
    rcases h with h | ⟨o, h⟩
    · rw [hd] at h
      cases h
      exact .inr ⟨od, upd_same⟩
    · rw [hd] at h; cases h
  · rcases h with h | ⟨o, h⟩
    · exact .inl (by rw [upd_ne e]; exact h)
    · exact .inr ⟨o, by rw [upd_ne e]; exact h⟩
theorem rd_thaw (hd : B d = some (.frz od (.dK ks))) {a : Addr} {w : HO} (hw : ∀ o x, w ≠ .frz o x) (h : Rd B a w) : Rd (upd B d (.dK ks)) a w := by
  by_cases e : a = d
  · subst e
    rcases h with h | ⟨o, h⟩
    · rw [hd] at h
      cases h
      exact absurd rfl (hw _ _)
    · rw [hd] at h
      cases h
      exact .inl upd_same
  · rcases h with h | ⟨o, h⟩
    · exact .inl (by rw [upd_ne e]; exact h)
    · exact .inr ⟨o, by rw [upd_ne e]; exact h⟩
theorem sqL_rd {B B' : Hp} {a : Addr} {xs : List V} (f : Rd B a (.lst xs) → Rd B' a (.lst xs)) (h : SqL K B a xs) : SqL K B' a xs := h.elim (fun h => .inl (f h)) .inr
theorem sqT_rd {B B' : Hp} {a : Addr} {xs : List V} (f : Rd B a (.tup xs) → Rd B' a (.tup xs)) (h : SqT K B a xs) : SqT K B' a xs := h.elim (fun h => .inl (f h)) .inr
/-- data under a change of what may be read -/
structure RdTo (B B' : Hp) : Prop where
  l : ∀ {a : Addr} {xs : List V}, Rd B a (.lst xs) → Rd B' a (.lst xs)
  t : ∀ {a : Addr} {xs : List V}, Rd B a (.tup xs) → Rd B' a (.tup xs)
  k : ∀ {a : Addr} {xs : List (Key × V)}, Rd B a (.dK xs) → Rd B' a (.dK xs)
end
end DX
namespace L2
open PySem DX
section
variable [TabEnv] {K : PySem.W.Frag}
mutual
theorem Dq.rd {B B' : Hp} (e : RdTo B B') : ∀ (d : D) (v : V), Dq K B v d → Dq K B' v d
  | .none, _, h => by cases h; exact .non
  | .bool b, _, h => by cases h; exact .bl b
  | .int i, _, h => by cases h; exact .int i
  | .str x, _, h => by cases h; exact .str x
  | .list ds, _, h => by
    cases h with
    | lst hs ha => exact .lst (sqL_rd e.l hs) (DqAll.rd e ds _ ha)
  | .tuple ds, _, h => by
    cases h with
    | tup hs ha => exact .tup (sqT_rd e.t hs) (DqAll.rd e ds _ ha)
  | .dict ds, _, h => by
    cases h with
    | dct hs ha => exact .dct (e.k hs) (DqKv.rd e ds _ ha)
theorem DqAll.rd {B B' : Hp} (e : RdTo B B') : ∀ (ds : List D) (vs : List V), DqAll K B vs ds → DqAll K B' vs ds
  | [], _, h => by cases h; exact .nil
  | d :: ds, _, h => by
    cases h with
    | cons h1 h2 => exact .cons (Dq.rd e d _ h1) (DqAll.rd e ds _ h2)
theorem DqKv.rd {B B' : Hp} (e : RdTo B B') : ∀ (ds : List (D × D)) (vs : List (Key × V)), DqKv K B vs ds → DqKv K B' vs ds
  | [], _, h => by cases h; exact .nil
  | (f, d) :: ds, _, h => by
    cases h with
    | cons h1 h2 h3 => exact .cons (Dq.rd e f _ h1) (Dq.rd e d _ h2) (DqKv.rd e ds _ h3)
end
end
end L2
namespace DX
open PySem L2
variable [TabEnv]
section
variable {K : PySem.W.Frag} {B : Hp} {d : Addr} {od : Obj} {ks : List (Key × V)}
theorem OwnRep.rd {B B' : Hp} {o : HO} (e : RdTo B B') : ∀ {x : OD}, OwnRep K B o x → OwnRep K B' o x
  | .l ds, ⟨vs, a, b⟩ => ⟨vs, a, L2.DqAll.rd e ds _ b⟩
  | .m es, ⟨vs, a, b⟩ => ⟨vs, a, L2.DqKv.rd e es _ b⟩
theorem rdTo_frz (hd : B d = some (.dK ks)) : RdTo B (upd B d (.frz od (.dK ks))) := ⟨rd_frz hd, rd_frz hd, rd_frz hd⟩
theorem rdTo_thaw (hd : B d = some (.frz od (.dK ks))) : RdTo B (upd B d (.dK ks)) := ⟨rd_thaw hd (fun _ _ z => nomatch z), rd_thaw hd (fun _ _ z => nomatch z), rd_thaw hd (fun _ _ z => nomatch z)⟩
end
/-- the past, locked -/
def lockH (H0 : Hp) (d : Addr) (o : HO) : Hp := fun a => if a = d then (match H0 d with
  | none => none
  | some _ => some o) else H0 a
theorem lockH_ne {H0 : Hp} {d a : Addr} {o : HO} (h : a ≠ d) : lockH H0 d o a = H0 a := by unfold lockH; rw [if_neg h]
theorem lockH_none {H0 : Hp} {d a : Addr} {o : HO} (h : H0 a = none) : lockH H0 d o a = none := by
  unfold lockH
  by_cases e : a = d
  · subst e; rw [if_pos rfl, h]
  · rw [if_neg e]; exact h
theorem lockH_some {H0 : Hp} {d : Addr} {o x : HO} (h : lockH H0 d o d = some x) : x = o := by
  unfold lockH at h
  rw [if_pos rfl] at h
  cases e : H0 d with
  | none => rw [e] at h; cases h
  | some y => rw [e] at h; cases h; rfl
section
variable {K : PySem.W.Frag} {B0 H0 B H B' H' : Hp} {σ σ' : L2.St} {δ δ' : List SV} {d : Addr} {od : Obj} {ks : List (Key × V)}
theorem nt_dK : NT (.dK ks) ∧ ∀ φ, HO.dK ks ≠ .ext φ := ⟨(fun _ z => nomatch z), (fun _ z => nomatch z)⟩
theorem nt_frz : NT (.frz od (.dK ks)) ∧ ∀ φ, HO.frz od (.dK ks) ≠ .ext φ := ⟨(fun _ z => nomatch z), (fun _ z => nomatch z)⟩
theorem Sd.lock (S : Sd K B0 H0 B H σ δ) (hd : B d = some (.dK ks)) : Sd K (upd B d (.frz od (.dK ks))) (lockH H0 d (.frz od (.dK ks))) (upd B d (.frz od (.dK ks))) (upd H d (.frz od (.dK ks))) σ δ := by
  refine ⟨⟨Sam.refl _, ⟨fun a o e => ?_, S.hist.bh.tb.upd (.inr ⟨_, S.hist.bh.at hd, nt_dK⟩) (fun _ z => nomatch z)⟩, fun a o e => ?_, fun a q z => z⟩, S.len, fun i s ei => ?_, S.apart⟩
  · by_cases x : a = d
    · subst x; rw [upd_same] at e ⊢; exact ⟨_, e, fun _ => rfl⟩
    · rw [upd_ne x] at e ⊢; exact S.hist.bh.sm _ _ e
  · by_cases x : a = d
    · subst x; rw [upd_same, lockH_some e]; exact ⟨_, rfl, fun _ => rfl⟩
    · rw [lockH_ne x] at e; rw [upd_ne x]; exact S.hist.hh _ _ e
  · obtain ⟨o, eo, ok⟩ := S.ok i s ei
    refine ⟨o, eo, ?_⟩
    cases s with
    | no => exact True.intro
    | ob C fs =>
      obtain ⟨p, dx, ws, e1, e2, e3, e4⟩ := ok
      have hp : p ≠ d := fun z => by subst z; rw [S.hist.bh.at hd] at e2; cases e2
      exact ⟨p, dx, ws, e1, by rw [upd_ne hp]; exact e2, e3, fun f y m => by
        obtain ⟨v, a, b⟩ := e4 f y m
        exact ⟨v, a, L2.Dq.rd (rdTo_frz hd) _ _ b⟩⟩
    | big R F =>
      obtain ⟨v, e1, r, st, ha⟩ := ok
      have hp : ∀ a ∈ F, a ≠ d := fun a ma z => by subst z; rw [(ha a ma).2.1] at hd; cases hd
      refine ⟨v, e1, st _ _ _ _ v r (fun w x z => L2.Dq.rd (rdTo_frz hd) _ _ z) (fun a ma o eo _ => by rw [upd_ne (hp a ma)]; exact eo), st, fun a ma => ?_⟩
      obtain ⟨h1, h2, h3⟩ := ha a ma
      exact ⟨by rw [upd_ne (hp a ma)]; exact h1, by rw [upd_ne (hp a ma)]; exact h2, lockH_none h3⟩
    | val x => obtain ⟨v, e1, e2⟩ := ok; exact ⟨v, e1, L2.Dq.rd (rdTo_frz hd) _ _ e2⟩
    | own x =>
      obtain ⟨p, u, e1, e2, e3, e4, e5⟩ := ok
      have hp : p ≠ d := fun z => by subst z; rw [hd] at e3; cases e3
      exact ⟨p, u, e1, by rw [upd_ne hp]; exact e2, by rw [upd_ne hp]; exact e3, lockH_none e4, e5.rd (rdTo_frz hd)⟩
theorem Hist.unlock (h : Hist B0 H0 B H) (hd : B d = some (.dK ks)) (S : Hist (upd B d (.frz od (.dK ks))) (lockH H0 d (.frz od (.dK ks))) B' H') : B' d = some (.frz od (.dK ks)) ∧ H' d = some (.frz od (.dK ks)) ∧ Hist B0 H0 (upd B' d (.dK ks)) (upd H' d (.dK ks)) := by
  have b1 : B' d = some (.frz od (.dK ks)) := S.bb.at upd_same
  refine ⟨b1, S.bh.at b1, fun a o e => ?_, ⟨fun a o e => ?_, S.bh.tb.upd (.inr ⟨_, S.bh.at b1, nt_frz⟩) (fun _ z => nomatch z)⟩, fun a o e => ?_, fun a q z => ?_⟩
  · by_cases x : a = d
    · subst x
      have e2 := h.bb _ _ e
      rw [hd] at e2; rw [upd_same]; exact e2
    · obtain ⟨o1, e1, q1⟩ := h.bb _ _ e
      obtain ⟨o2, e2, q2⟩ := S.bb a o1 (by rw [upd_ne x]; exact e1)
      refine ⟨o2, by rw [upd_ne x]; exact e2, fun n => ?_⟩
      have z := q1 n
      subst z
      exact q2 n
  · by_cases x : a = d
    · subst x; rw [upd_same] at e ⊢; exact ⟨_, e, fun _ => rfl⟩
    · rw [upd_ne x] at e ⊢; exact S.bh.sm _ _ e
  · by_cases x : a = d
    · subst x
      have e2 := h.hh _ _ e
      rw [h.bh.at hd] at e2
      rw [upd_same]; exact e2
    · rw [upd_ne x]; exact S.hh _ _ (by rw [lockH_ne x]; exact e)
  · have e2 := h.fr a q z
    have x : a ≠ d := fun x => by subst x; rw [hd] at e2; cases e2
    rw [upd_ne x]
    exact S.fr a (by rw [lockH_ne x]; exact q) (by rw [upd_ne x]; exact e2)
theorem Sd.unlock (h : Hist B0 H0 B H) (hd : B d = some (.dK ks)) (S : Sd K (upd B d (.frz od (.dK ks))) (lockH H0 d (.frz od (.dK ks))) B' H' σ' δ') : H' d = some (.frz od (.dK ks)) ∧ Sd K B0 H0 (upd B' d (.dK ks)) (upd H' d (.dK ks)) σ' δ' := by
  obtain ⟨b1, h1, hi⟩ := h.unlock hd S.hist
  refine ⟨h1, hi, S.len, fun i s ei => ?_, S.apart⟩
  obtain ⟨o, eo, ok⟩ := S.ok i s ei
  refine ⟨o, eo, ?_⟩
  cases s with
  | no => exact True.intro
  | ob C fs =>
    obtain ⟨p, dx, ws, e1, e2, e3, e4⟩ := ok
    have hp : p ≠ d := fun z => by subst z; rw [h1] at e2; cases e2
    exact ⟨p, dx, ws, e1, by rw [upd_ne hp]; exact e2, e3, fun f y m => by
      obtain ⟨v, a, b⟩ := e4 f y m
      exact ⟨v, a, L2.Dq.rd (rdTo_thaw b1) _ _ b⟩⟩
  | big R F =>
    obtain ⟨v, e1, r, st, ha⟩ := ok
    have hp : ∀ a ∈ F, a ≠ d := fun a ma z => by subst z; have h2 := (ha a ma).2.1; rw [b1] at h2; cases h2
    refine ⟨v, e1, st _ _ _ _ v r (fun w x z => L2.Dq.rd (rdTo_thaw b1) _ _ z) (fun a ma o eo _ => by rw [upd_ne (hp a ma)]; exact eo), st, fun a ma => ?_⟩
    obtain ⟨h1, h2, h3⟩ := ha a ma
    exact ⟨by rw [upd_ne (hp a ma)]; exact h1, by rw [upd_ne (hp a ma)]; exact h2, by rw [lockH_ne (hp a ma)] at h3; exact h3⟩
  | val x => obtain ⟨v, e1, e2⟩ := ok; exact ⟨v, e1, L2.Dq.rd (rdTo_thaw b1) _ _ e2⟩
  | own x =>
    obtain ⟨p, u, e1, e2, e3, e4, e5⟩ := ok
    have hp : p ≠ d := fun z => by subst z; rw [b1] at e3; cases e3
    exact ⟨p, u, e1, by rw [upd_ne hp]; exact e2, by rw [upd_ne hp]; exact e3, by rw [lockH_ne hp] at e4; exact e4, e5.rd (rdTo_thaw b1)⟩
end
section
variable {K : PySem.W.Frag} {δ : List SV} {t : TS} {E : EndsD} {α : Type} {xs : List α} {g1 g2 : α → D}
/-- for k, v in d.items() -/
theorem wp_items {m i j : Nat} (I : Nat → List SV → Prop) (hv : ∀ n δ', I n δ' → δ'[m]? = some (.val (.dict (xs.map fun x => (g1 x, g2 x))))) (h0 : I 0 δ)
    (hs : ∀ k x δ', xs[k]? = some x → I k δ' → WP K t { E with nx := I (k + 1), ct := I (k + 1), bk := E.nx } ((δ'.set i (.val (g1 x))).set j (.val (g2 x)))) (hd : ∀ δ', I xs.length δ' → E.nx δ') :
    WP K (tLk (tFor (iItems (tVar m)) (gTup K 2 (gCons (gName i) (gCons (gName j) gNil))) t)) E δ := by
  -- the walk over a locked dict
  have walk : ∀ (B0 H0 B H : Hp) (σ : L2.St) (D : Ends) (a : Addr) (o : Obj) (ks : List (Key × V)), Lift K B0 H0 E D → Sd K B0 H0 B H σ δ → σ[m]? = some (some (.ref a)) → B a = some (.frz o (.dK ks)) → DqKv K B ks (xs.map fun x => (g1 x, g2 x)) →
      tFor (iItems (tVar m)) (gTup K 2 (gCons (gName i) (gCons (gName j) gNil))) t D σ H := fun B0 H0 B H σ D a o ks L S hm hB hkv => by
    have hkl : ks.length = xs.length := by rw [hkv.len, List.length_map]
    refine ⟨_, hm, a, o, ks, rfl, S.hist.bh.at hB, fun k n σ' H' => n = xs.length - k ∧ k ≤ xs.length ∧ ∃ B' δ', Sd K B H0 B' H' σ' δ' ∧ I k δ', ⟨_, rfl, Nat.zero_le _, B, δ, S.past S.hist.bb (Sam.refl _), h0⟩, ?_⟩
    rintro k n σ' H' ⟨rfl, hk, B', δ', S', ik⟩
    have hH' : H' a = some (.frz o (.dK ks)) := S'.hist.bh.at (S'.hist.bb.at hB)
    by_cases hlt : k < xs.length
    · refine .inr ⟨⟨hH', by omega⟩, fun σ2 H2 => ∃ B2 δ2, Sd K B H0 B2 H2 σ2 δ2 ∧ I (k + 1) δ2, fun σ2 H2 ⟨B2, δ2, S2, i2⟩ => ⟨xs.length - (k + 1), by omega, rfl, hlt, B2, δ2, S2, i2⟩, fun x H2 yl => ?_⟩
      obtain ⟨T, kk, v, ek, rfl, nT, rfl⟩ := yl
      have item : ∀ (n : Nat) (vs : List (Key × V)) (es : List α), DqKv K B vs (es.map fun x => (g1 x, g2 x)) → ∀ kk v, vs[n]? = some (kk, v) → ∃ y, es[n]? = some y ∧ Dq K B (kV kk) (g1 y) ∧ Dq K B v (g2 y) := by
        intro n
        induction n with
        | zero =>
          intro vs es h kk v e
          cases es with
          | nil => cases h; cases e
          | cons y es =>
            cases h with
            | cons h1 h2 h3 => cases e; exact ⟨y, rfl, h1, h2⟩
        | succ n ih =>
          intro vs es h kk v e
          cases es with
          | nil => cases h; cases e
          | cons y es =>
            cases h with
            | cons h1 h2 h3 => exact ih _ es h3 kk v e
      obtain ⟨y, ey, d1, d2⟩ := item k ks xs hkv kk v ek
      have bn := S'.hist.bh.free nT
      have sn := same_new (o := .tup [kV kk, v]) bn
      have st : Stp B' H' (upd B' T (.tup [kV kk, v])) (upd H' T (.tup [kV kk, v])) := .new S'.hist.bh nT
      have S2 := S'.step st
      refine ⟨T, [kV kk, v], rfl, .inl (.inl upd_same), rfl, kV kk, [v], rfl, v, [], rfl, rfl, ?_⟩
      have S3 := (S2.setVal (i := i) (Dq.up (S'.hist.bb.trans sn) _ _ d1)).setVal (i := j) (Dq.up (S'.hist.bb.trans sn) _ _ d2)
      exact hs k y δ' ey ik B H0 _ _ _ _ ⟨fun σ4 H4 B4 δ4 S4 q => ⟨B4, δ4, S4, q⟩, fun v B4 H4 d' hh dv q => L.rt v B4 H4 d' (hh.back S.hist) dv q, fun σ4 H4 B4 δ4 S4 q => L.nx σ4 H4 B4 δ4 (S4.back S.hist) q, fun σ4 H4 B4 δ4 S4 q => ⟨B4, δ4, S4, q⟩, fun p vs B4 H4 ds hh n0 nb hp da q => L.rn p vs B4 H4 ds (hh.back S.hist) n0 nb hp da q, fun v B4 H4 d' σ4 δ4 S4 dv q => L.rs v B4 H4 d' σ4 δ4 (S4.back S.hist) dv q⟩ S3
    · have e : k = xs.length := by omega
      subst e
      exact .inl ⟨⟨hH', by omega⟩, L.nx σ' H' B' δ' (S'.back S.hist) (hd δ' ik)⟩
  intro B0 H0 B H σ D L S
  obtain ⟨v, hm, dv⟩ := S.slot (hv 0 δ h0)
  cases dv with
  | @dct a ks _ hr hkv =>
    rcases hr with hr | ⟨o, hr⟩
    · refine .inl ⟨a, .dK ks, S.hist.bh.at hr, True.intro, fun od => ?_⟩
      refine walk _ _ _ _ σ _ a od ks ⟨fun σ' H' B' δ' S' q => ?_, fun v B' H' d' hh dv q => ?_, fun σ' H' B' δ' S' q => ?_, fun σ' H' B' δ' S' q => ?_, fun p vs B' H' ds hh n0 nb hp da q => ?_, fun v B' H' d' σ' δ' S' dv q => ?_⟩ (S.lock hr) hm upd_same (L2.DqKv.rd (rdTo_frz hr) _ _ hkv)
      · obtain ⟨z1, z2⟩ := Sd.unlock S.hist hr S'
        exact ⟨z1, L.nx _ _ _ _ z2 q⟩
      · obtain ⟨z0, z1, z2⟩ := S.hist.unlock hr hh
        exact ⟨z1, L.rt _ _ _ _ z2 (L2.Dq.rd (rdTo_thaw z0) _ _ dv) q⟩
      · obtain ⟨z1, z2⟩ := Sd.unlock S.hist hr S'
        exact ⟨z1, L.bk _ _ _ _ z2 q⟩
      · obtain ⟨z1, z2⟩ := Sd.unlock S.hist hr S'
        exact ⟨z1, L.ct _ _ _ _ z2 q⟩
      · obtain ⟨z0, z1, z2⟩ := S.hist.unlock hr hh
        have hp2 : p ≠ a := fun z => by subst z; rw [z0] at nb; cases nb
        refine ⟨z1, L.rn p vs _ _ ds z2 (by rw [lockH_ne hp2] at n0; exact n0) (by rw [upd_ne hp2]; exact nb) (by rw [upd_ne hp2]; exact hp) (L2.DqAll.rd (rdTo_thaw z0) _ _ da) q⟩
      · obtain ⟨z0, _, _⟩ := S.hist.unlock hr S'.hist
        obtain ⟨z1, z2⟩ := Sd.unlock S.hist hr S'
        exact ⟨z1, L.rs _ _ _ _ _ _ z2 (L2.Dq.rd (rdTo_thaw z0) _ _ dv) q⟩
    · exact .inr (walk B0 H0 B H σ D a o ks L S hm hr hkv)
theorem wp_asgGP {te : TE} {g : TG} {P : D → Prop} (h : EP K te δ P) (q : ∀ d, P d → ∃ δ', GD K g δ d δ' ∧ E.nx δ') : WP K (tAsg te g) E δ := fun B0 H0 B H σ D L S =>
  h B0 H0 B H σ _ S fun v B1 H1 d s1 a p => by
    obtain ⟨δ', hg, q⟩ := q d p
    exact hg B0 H0 B1 H1 σ v _ (S.step s1) a fun σ' S' => L.nx σ' H1 B1 δ' S' q
end
end DX

namespace DX
open PySem PySem.Spec PyProof.Rows L2
variable [TabEnv]
/-- a set without items, when it was just made -/
abbrev eS (w : World) : Obj := { cls := .type "set", dict := none, data := .set #[] 0 (.fresh 0 0 (!w.params.followText "set-order")) }
section
variable {P : Program} {w : World} {A : Around} {E : Value → Shared → Prop} {s : Shared}
set_option maxRecDepth 100000 in
set_option maxHeartbeats 3200000 in
theorem set_of_list {l : Addr} {its : Array Value} (ns : List Int) {Q : Value → Shared → Prop} (hh : A.handled = none)
    (hl : s.heap.IsList l its) (hi : IntsAre its.toList ns) (hb : ns.length + 1 < scanBound)
    (K : ∀ (h' : Heap) (tk c : Nat), SetR w h' s.heap.objs.size (fun j => decide (j ∈ ns)) c → c ≤ ns.length →
      (∀ b o, s.heap.get? b = some o → h'.get? b = some o) → Q (.ref s.heap.objs.size) { s with heap := h', toks := tk }) :
    wpAny (model P w) A (call (.type "set") [.ref l]) Q E s := by
  have size_eq : its.size = ns.length := by
    have q := IntsAre.length hi
    rwa [Array.length_toList] at q
  obtain ⟨c0, tl, m0⟩ := F.called_set.mro
  have m1 := F.called_set.made
  have m2 := F.called_set.sub
  have m3 := F.called_set.notType
  have m4 := F.called_set.canCreate
  have m5 := F.typeCall_set_1 (.ref l)
  refine wpAny_call (codeAny_of_tree (show wpAny _ _ (callAny (.type "set") _) _ _ _ from ?_))
  refine wpAny_pure ⟨Code.quiet_builtin _ (by decide +kernel), codeAny_builtin PySem.F.entry_type_call ?_⟩
  rw [Around.under_plain (weight_type_call_type "set" [.ref l] []) rfl]
  repeat (any_goals (first | assumption | wp_step))
  refine codeAny_mono (code_set_led1 (.ref l) (E := E)
    (Q₁ := fun v s₁ => v = .ref s.heap.objs.size ∧ s₁ = { s with heap := s.heap.push (eS w) }) ⟨rfl, rfl⟩) fun r s₁ hr => ?_
  cases r with
  | error e => exact hr
  | ok fl =>
    cases fl with
    | ret obj =>
      obtain ⟨rfl, rfl⟩ := hr
      have at0 : (s.heap.push (eS w)).get? s.heap.objs.size = some (eS w) := Heap.get?_push_size _ rfl
      have ty0 : Shared.TypeIs { s with heap := s.heap.push (eS w) } (.ref s.heap.objs.size) "set" := ⟨_, at0, rfl⟩
      have n1 := F.called_set.init.lookup
      have n2 := F.called_set.init.bind (.ref s.heap.objs.size)
      repeat (any_goals (first | assumption | wp_step))
      refine codeAny_mono (codeAny_call_builtin
        (R := wants (fun r s₂ => r = .none ∧ ∃ h' tk c, s₂ = { s with heap := h', toks := tk } ∧
          SetR w h' s.heap.objs.size (fun j => decide (j ∈ ns)) c ∧ c ≤ ns.length ∧
          ∀ b o, s.heap.get? b = some o → h'.get? b = some o) E)
        F.called_set.init.plain F.entry_set_init (check_set_init_1 ty0 ?_)) fun r₂ s₂ hr₂ => ?_
      · obtain ⟨⟨xc, xd, xt, xs⟩, hol, hcl, nl, hdl⟩ := hl
        simp only at hcl hdl
        subst hcl; subst hdl
        have ol : (s.heap.push (eS w)).get? l = some { cls := .type "list", dict := xd, data := .seq its nl, slots := xs } := Heap.get?_push_of_some _ hol
        have p1 := F.sub_list_set
        have p2 := F.sub_list_frozenset
        have p3 : (Value.type "list" == Value.type "dict") = false := by decide
        have il : (s.heap.push (eS w)).IsList l its := ⟨_, ol, rfl, nl, rfl⟩
        unfold Builtin.«set.__init__» noKeywords Builtin.Frozenset.updateFrom
        generalize hPI : pyIter = PI
        wp_walk
        subst hPI
        refine wpAny_pyIter_list il (wpAny_bind (wpAny_runValue ?_))
        have lt0 : l < s.heap.objs.size := Heap.lt_size hol
        have h3 : A.in1.in1.in1.handled = none := by simp [hh]
        have ne1 : l ≠ (s.heap.push (eS w)).objs.size := by rw [Heap.size_push]; exact Nat.ne_of_lt (Nat.lt_succ_of_lt lt0)
        have ne2 : s.heap.objs.size ∉ [(s.heap.push (eS w)).objs.size, l] := by
          rw [Heap.size_push]
          simp only [List.mem_cons, List.not_mem_nil, or_false, not_or]
          exact ⟨Nat.ne_of_lt (Nat.lt_succ_self _), Nat.ne_of_gt lt0⟩
        have val : ∀ (i : Nat) (v : Value), its[i]? = some v → ∃ k t, ns[i]? = some k ∧ v = .int k t := fun i v hv => by
          have hlt : i < ns.length := by rw [← size_eq]; exact (Array.getElem?_eq_some_iff.mp hv).1
          obtain ⟨t, e⟩ := PyProof.Rows.IntsAre.int_at hi i v (by rw [Array.getElem?_toList]; exact hv)
          refine ⟨ns[i], t, List.getElem?_eq_getElem hlt, ?_⟩
          rw [e, List.getD_eq_getElem?_getD, List.getElem?_eq_getElem hlt] <;> rfl
        refine set_update_ints ((Walks.list h3 _ l ne1 its).toS) s.heap.objs.size ne2 ns size_eq hb val (its.size - 0) 0 _ (by omega) (Nat.zero_le _)
          ⟨⟨_, Heap.get?_push_size _ rfl, rfl, rfl⟩, (il.push _)⟩ ⟨0, Nat.le_refl 0, setR_new_at (Heap.get?_push_of_some _ at0)⟩ ?_
        rintro ⟨h2, g2, d2, tk2, os2⟩ c2 hm hc2 hS2
        have eg : g2 = s.gens := hm.gens
        have ed : d2 = s.drawn := hm.drawn
        have eo : os2 = s.os := hm.os
        subst eg; subst ed; subst eo
        show wpAny _ _ _ _ _ _
        refine wpAny_pure ?_
        show wpAny _ _ (ret Value.none) _ _ _
        rw [size_eq] at hc2
        refine wpAny_pure ⟨rfl, h2, tk2, c2, rfl, hS2, hc2, fun b o e => ?_⟩
        have b0 : b < s.heap.objs.size := Heap.lt_size e
        refine hm.heap b o ?_ (Heap.get?_push_of_some _ (Heap.get?_push_of_some _ e))
        rw [Heap.size_push]
        simp only [List.mem_cons, List.not_mem_nil, or_false, not_or]
        exact ⟨Nat.ne_of_lt b0, Nat.ne_of_lt (Nat.lt_succ_of_lt b0)⟩
      · cases r₂ with
        | error e => exact hr₂
        | ok fl₂ =>
          cases fl₂ with
          | ret r =>
            obtain ⟨rfl, h2, tk2, c2, rfl, hS2, hc2, k2⟩ := hr₂
            repeat (any_goals (first | assumption | wp_step))
            exact K _ _ _ hS2 hc2 k2
          | _ => exact hr₂.elim
    | _ => exact hr.elim
end
/-- set(xs) of a list of ints -/
def rSetL (K : PySem.W.Frag) (w : World) : List V → Hp → VK → Prop := fun xs H Q => ∃ (p : Addr) (ns : List Int), xs = [.ref p] ∧ SqL K H p (ns.map V.int) ∧ ns.length ≤ 1000 ∧ ∀ a c, H a = none → c ≤ ns.length → Q (.ref a) (upd H a (SetO w a (fun j => decide (j ∈ ns)) c))
theorem cr_setL {X : Cx} {K : PySem.W.Frag} (hc : X.calm = true) (hK : X.K = K := by rfl) : CallR X (.type "set") (rSetL K X.w) := by
  subst hK
  intro pins s σ H xs us Q I r h
  obtain ⟨p, ns, rfl, hq, hl, q⟩ := h
  cases r with
  | cons r rr =>
    cases rr
    cases r
    obtain ⟨its, rv, pt, hz⟩ := I.list hq
    have hi : IntsAre its.toArray.toList ns := ints_of_vals rv
    refine set_of_list ns (I.ok.hd hc) (show s.heap.IsList p its.toArray from pt.isList) hi (by unfold scanBound; omega) fun h' tk c R1 hcn k => ?_
    exact ⟨.ref _, upd H s.heap.objs.size _, I.laid (t' := tk) k (Nat.le_refl _) (setO_new R1), rfl, q _ _ (I.hok.fresh (Nat.le_refl _)) hcn⟩
end DX

namespace DX
open PySem PySem.Spec PyProof.Rows L2
open AutoSeq1 (wpAny_loadPart')
variable [TabEnv]
/-! ### enumerate over a tuple -/
abbrev tupIt (l : Addr) : Obj := { cls := .type "tuple_iterator", data := .fields #[.ref l, .int 0 0] }
abbrev enumOb (i : Addr) : Obj := { cls := .type "enumerate", data := .fields #[.none, .bool false, .ref i, rawInt 0, .none, .none] }
theorem enum_new_tup (l : Addr) (its : Array Value) : Meets (Builtin.«enumerate.__new__» ⟨[.type "enumerate", .ref l], []⟩)
    (fun _ R s => s.heap.IsTuple l its ∧ R (.ok (.ret (.ref (s.heap.push (tupIt l)).objs.size))) { s with heap := (s.heap.push (tupIt l)).push (enumOb s.heap.objs.size) }) :=
  .of_wp fun prog w A R s z => by
    obtain ⟨hp, g, d, tk, os⟩ := s
    obtain ⟨tl, z⟩ := z
    obtain ⟨⟨c, dd, dt, sl⟩, ho, hc, n, hd⟩ := id tl
    simp only at hc hd
    subst hc; subst hd
    have hsub := sub_enumerate
    wp_walk using wpAny_loadPart' ho
    refine wpAny_stack_any fun st => wpAny_pure ?_
    split
    · rename_i c _ _ _ _ _
      cases (c == Value.type "enumerate") <;> (wp_walk using wpAny_loadPart' ho, wpAny_pyIter_tuple tl; exact ⟨_, rfl, z⟩)
    · wp_walk using wpAny_loadPart' ho, wpAny_pyIter_tuple tl
      exact ⟨_, rfl, z⟩
section
variable {prog : Program} {w : World} {A : Around} {E : Value → Shared → Prop} {s : Shared}
theorem enum_of_tup {l : Addr} {its : Array Value} {Q : Value → Shared → Prop} (tl : s.heap.IsTuple l its)
    (k : ∀ h', IsEnum h' (s.heap.objs.size + 1) s.heap.objs.size 0 .none → h'.IsTupleIter s.heap.objs.size l 0 →
      (∀ b o, s.heap.get? b = some o → h'.get? b = some o) → Q (.ref (s.heap.objs.size + 1)) { s with heap := h' }) :
    wpAny (model prog w) A (call (.type "enumerate") [.ref l]) Q E s := by
  refine callType_new F.called_enumerate (by decide) (F.typeCall_enumerate_1 _) (F.newCall_enumerate_1 _) (fun obj => F.args_object_init_2 obj _) F.entry_enumerate_new (enum_new_tup l its) ⟨tl, ?_⟩
  have z1 : (s.heap.push (tupIt l)).objs.size = s.heap.objs.size + 1 := Heap.size_push ..
  have z2 := Heap.get?_push_size (s.heap.push (tupIt l)) (o := enumOb s.heap.objs.size) rfl
  rw [z1] at z2
  show _ ∧ _
  rw [z1]
  exact ⟨⟨_, z2, rfl⟩, k _ z2 ⟨_, Heap.get?_push_of_some _ (Heap.get?_push_size _ rfl), rfl, rfl⟩ fun b o x => Heap.get?_push_of_some _ (Heap.get?_push_of_some _ x)⟩
end
/-- a tuple's items with their places, each in a new pair -/
def IteT (K : PySem.W.Frag) (a : Addr) : It :=
  ⟨fun i H => ∃ (xs : List V) (x : V), SqT K H a xs ∧ xs[i]? = some x,
   fun i H v H' => ∃ T x, v = .ref T ∧ H T = none ∧ H' = upd H T (.tup [.int (i : Nat), x]) ∧ ∀ xs, SqT K H a xs → xs[i]? = some x,
   fun i H => ∃ xs : List V, SqT K H a xs ∧ xs.length ≤ i⟩
theorem turn_enumT {P : Program} {w : World} {K : PySem.W.Frag} {elts : List Expr} {kk : Nat} {tpos : Pos} (a e it : Addr) :
    Turn P w K (.Tuple elts kk tpos) (IteT K a) [e, it] e (fun i h => (∃ old, IsEnum h e it ((i : Nat) : Int) old) ∧ h.IsTupleIter it a i ∧ e ≠ it) where
  mem := by simp
  obj := fun i h ⟨⟨old, he⟩, ⟨o, ho, hc, hd⟩, _⟩ b hb => by
    rcases List.mem_cons.mp hb with z | z
    · rw [z]; exact ⟨_, he, fun v q => nomatch q⟩
    · rw [List.mem_singleton.mp z]; exact ⟨o, ho, fun v q => by rw [hd] at q; cases q⟩
  keep := fun i h h' ⟨⟨old, he⟩, ⟨o, ho, r⟩, hne⟩ k => ⟨⟨old, k e (by simp) _ he⟩, ⟨o, k it (by simp) _ ho, r⟩, hne⟩
  item := by
    rintro X hP hw hK hc i pins s σ H E I hf ⟨⟨old, he⟩, hit, hne⟩ ⟨xs, x, hq, hx⟩
    subst hP hw hK
    obtain ⟨its, rv, p, hz⟩ := I.tuple hq
    obtain ⟨u, hu, ru⟩ := rv.get hx
    have le : e < s.heap.objs.size := Heap.lt_size he
    have li : it < s.heap.objs.size := by obtain ⟨_, q, _⟩ := hit; exact Heap.lt_size q
    by_cases hai : a = it
    · exfalso
      subst hai
      obtain ⟨o, q1, q2, _⟩ := hit
      obtain ⟨o', q1', q2', _⟩ := p
      rw [q1] at q1'; cases q1'
      rw [q2] at q2'; injection q2' with q3; exact absurd q3 (by decide)
    by_cases hea : e = a
    · exfalso
      subst hea
      obtain ⟨o', q1', q2', _⟩ := p
      rw [he] at q1'; cases q1'
      injection q2' with q3; exact absurd q3 (by decide)
    have hlt : i < its.toArray.size := by
      have := (List.getElem?_eq_some_iff.mp hu).1
      simpa using this
    refine wpAny_pyNext_enum_itemD (Draws.tuple (A := X.A.in1) (show X.A.in1.handled = none from I.ok.hd hc) it a hai its.toArray) he ⟨hit, p⟩ hlt hne (by
      simp only [List.mem_cons, List.not_mem_nil, or_false, not_or]
      exact ⟨hne, hea⟩) fun v h1 tk hv ho st1 hT hsz hk => ?_
    have ev : v = u := by
      have hv : its.toArray[i]? = some v := hv
      have hu2 : its.toArray[i]? = some u := by simpa using hu
      rw [hu2] at hv; exact (Option.some.inj hv).symm
    subst ev
    refine ⟨_, rfl, wpAny_letOwnedTupleGo_enum (s := { s with heap := h1, toks := tk + 1 }) ho fun h2 he2 sb => ?_⟩
    have T2 : h2.get? s.heap.objs.size = some { cls := .type "tuple", data := .seq #[.int i tk, v] } := (sb.2 _ (Nat.ne_of_gt le)).trans hT
    have new : ObjOk X.prog X.w (upd H s.heap.objs.size (.tup [.int (i : Nat), x])) h2 s.heap.objs.size (.tup [.int (i : Nat), x]) :=
      ⟨by show 2 ≤ sizeLine; decide, [.int i tk, v], .cons ⟨_, rfl⟩ (.cons ru .nil), ⟨_, T2, rfl, _, rfl⟩⟩
    have I1 : Inv X pins σ (upd H s.heap.objs.size (.tup [.int (i : Nat), x])) { s with heap := h2, toks := tk + 1 } :=
      I.turnedNew (ch := [e, it]) (fun b ob hb q => by
        simp only [List.mem_cons, List.not_mem_nil, or_false, not_or] at hb
        exact (sb.2 b hb.1).trans (hk b ob hb.1 hb.2 q)) hf (Nat.le_refl _) new
    obtain ⟨o5, q5, r5⟩ := st1.1
    refine ⟨.ref s.heap.objs.size, _, I1, rfl, ⟨_, x, rfl, I.hok.fresh (Nat.le_refl _), rfl, fun ys hy => by rw [I.tuple_inj hy hq]; exact hx⟩, ⟨⟨v, ?_⟩, ⟨o5, (sb.2 it (Ne.symm hne)).trans q5, r5⟩, hne⟩, fun b hb => ?_⟩
    · rw [Int.natCast_succ]; exact he2
    · have hb' : b < s.heap.objs.size := by
        rcases List.mem_cons.mp hb with z | z
        · rw [z]; exact le
        · rw [List.mem_singleton.mp z]; exact li
      rw [upd_ne (Nat.ne_of_lt hb')]
      exact (hf b hb).1
  done := by
    rintro X hP hw hK hc i pins s σ H E I hf ⟨⟨old, he⟩, hit, hne⟩ ⟨xs, hq, hx⟩
    subst hP hw hK
    obtain ⟨its, rv, p, hz⟩ := I.tuple hq
    obtain ⟨f0, f1, f2, f3, f4, f5⟩ := hf it (by simp)
    by_cases hai : a = it
    · exfalso
      subst hai
      obtain ⟨o, q1, q2, _⟩ := hit
      obtain ⟨o', q1', q2', _⟩ := p
      rw [q1] at q1'; cases q1'
      rw [q2] at q2'; injection q2' with q3; exact absurd q3 (by decide)
    have hT : s.TypeIs (.ref e) "enumerate" := ⟨_, he, rfl⟩
    unfold pyNext
    refine wpAny_bind (wpAny_attempt (wpAny_callSpecial?_slot (name := Str.ofString "__next__") hT F.slot_enumerate_next
      (wpAny_call_entry F.slot_enumerate_next hT F.entry_enumerate_next ?_ (F.args_enumerate_next_1 _))))
    refine wpAny_bind (m := field (.ref e) 2) (wpAny_field he rfl (x := .ref it) rfl ?_)
    refine wpAny_bind (RZ.nextOf_tuple_end (show X.A.in1.handled = none from I.ok.hd hc) hit (show s.heap.IsTuple a its.toArray from p) (by
      have := rv.length
      simp; omega) fun h' y eb hx' => ?_)
    obtain ⟨o, ho, hc'⟩ := hx'
    refine wpAny_bind (wpAny_isInstance (T := "StopIteration") (b := true) ⟨o, ho, hc'⟩ isSubtype_stop ?_)
    exact wpAny_pure ⟨rfl, I.turned (t' := s.toks) (fun b o hb q => eb b o hb q) f0 f1 f3 f4 f5⟩
  self := fun A i s Q E ⟨⟨_, he⟩, _⟩ h => wpAny_pyIter_enum he h
def iEnumT (K : PySem.W.Frag) (ta : TA) : TI := fun σ H R => ta σ H fun vs H1 => ∃ a xs, vs = [.ref a] ∧ SqT K H1 a xs ∧ R (IteT K a) H1
theorem pi_enumT {X : Cx} {K : PySem.W.Frag} {e : Expr} {ta : TA} {p pos tpos : Pos} {elts : List Expr} {kk : Nat} (hg : Gl X "enumerate") (hm : X.mg "enumerate" = none) (ha : PA X [e] ta) (hK : X.K = K := by rfl)
    (hs : starEach [e] X.env = [(false, eval e X.env)] := by rfl) : PI X (.Tuple elts kk tpos) (.Call (.Name "enumerate" p) [e] [] pos) (iEnumT K ta) := by
  subst hK
  constructor
  intro pins s σ H R I h
  refine Call_ (ld_blt I hg hm boot_enumerate (PyProof.Rows.callWith_type1 (thn (ha.run pos pins s σ H _ I h) ?_) hs rfl))
  rintro us s1 ⟨vs, H1, I1, r1, a, xs, rfl, hq, q⟩
  cases r1 with
  | cons r rr =>
    cases rr
    cases r
    obtain ⟨its, rv, pt, hz⟩ := I1.tuple hq
    refine enum_of_tup (show s1.heap.IsTuple a its.toArray from pt) fun h' he hit hk => wpAny_pyIter_enum he ?_
    refine ⟨s1.heap.objs.size + 1, [s1.heap.objs.size + 1, s1.heap.objs.size], _, _, H1, rfl, I1.kept (t' := s1.toks) hk, turn_enumT a (s1.heap.objs.size + 1) s1.heap.objs.size, ⟨⟨.none, he⟩, hit, Nat.succ_ne_self _⟩, fun b hb => ?_, q⟩
    have le : s1.heap.objs.size ≤ b := by
      rcases List.mem_cons.mp hb with z | z
      · rw [z]; exact Nat.le_add_right _ _
      · rw [List.mem_singleton.mp z]; exact Nat.le_refl _
    exact I1.fpOk le (I1.hok.fresh le)
/-- over a list or a tuple -/
def iEnumA (K : PySem.W.Frag) (ta : TA) : TI := fun σ H R => iEnum K ta σ H R ∨ iEnumT K ta σ H R
theorem kpi_enumA {X : Cx} {K : PySem.W.Frag} {e : Expr} {ta : TA} {p pos tpos : Pos} {elts : List Expr} {kk : Nat} (hg : Gl X "enumerate") (hm : X.mg "enumerate" = none) (ha : PA X [e] ta) (hK : X.K = K := by rfl)
    (hs : starEach [e] X.env = [(false, eval e X.env)] := by rfl) : PI X (.Tuple elts kk tpos) (.Call (.Name "enumerate" p) [e] [] pos) (iEnumA K ta) := by
  have h1 := pi_enumT (tpos := tpos) (elts := elts) (kk := kk) (p := p) (pos := pos) hg hm ha hK hs
  subst hK
  have h2 := pi_enum (tpos := tpos) (elts := elts) (kk := kk) (p := p) (pos := pos) hg hm ha hs
  exact ⟨fun pins s σ H R I h => h.elim (h2.run pins s σ H R I) (h1.run pins s σ H R I)⟩
theorem kpi_zipA {X : Cx} {K : PySem.W.Frag} {e e2 : Expr} {ta : TA} {p pos tpos : Pos} {elts : List Expr} {kk : Nat} (hg : Gl X "zip") (hm : X.mg "zip" = none) (ha : PA X [e, e2] ta) (hK : X.K = K := by rfl)
    (hs : starEach [e, e2] X.env = (false, eval e X.env) :: starEach [e2] X.env := by rfl) (hpl : (backTo pos (starEach [e2] X.env)).any (·.1) = false := by rfl) : PI X (.Tuple elts kk tpos) (.Call (.Name "zip" p) [e, e2] [] pos) (RZ.iZipA K ta) := by subst hK; exact RZ.pi_zipA hg hm ha hs hpl
end DX

namespace DX
open PySem L2
variable [TabEnv]
/-! ### rules with the written part named -/
def rSlB (K : PySem.W.Frag) : V → Option Int → Option Int → Hp → VK → Prop := fun x lo hi H Q => rSlL K x lo hi H Q ∨ L2.rSlA K x lo hi H Q
def rCatA (K : PySem.W.Frag) : R2 := fun x y H Q => rCat x y H Q ∨ rCatT K x y H Q
section
variable {X : Cx} {K : PySem.W.Frag} {w : World}
theorem kx_slB (hK : X.K = K := by rfl) : SlR X (rSlB K) := by subst hK; exact SlR.or sl_list L2.sl_tupA
theorem opr_or {f : Value → Value → Sem Value} {r r' : R2} (h : OpR X f r) (h' : OpR X f r') : OpR X f (fun x y H Q => r x y H Q ∨ r' x y H Q) := by
  intro pins s σ H x y v u Q I rx ry q
  exact q.elim (h pins s σ H x y v u Q I rx ry) (h' pins s σ H x y v u Q I rx ry)
theorem kx_catA (hK : X.K = K := by rfl) : OpR X (binaryOp .Add) (rCatA K) := by subst hK; exact opr_or op_cat op_catT
theorem kx_in (hK : X.K = K := by rfl) : OpR X (compareOp .In) (rIn K false) := by subst hK; exact op_in_seq
theorem kx_notin (hK : X.K = K := by rfl) : OpR X (compareOp .NotIn) (rIn K true) := by subst hK; exact op_notIn_seq
theorem kx_setL (hK : X.K = K := by rfl) (hw : X.w = w := by rfl) (hc : X.calm = true := by rfl) : CallR X (.type "set") (rSetL K w) := by subst hw; exact cr_setL hc hK
theorem kx_sortedSet (hw : X.w = w := by rfl) (hc : X.calm = true := by rfl) : CallR X (.builtin "sorted") (rSortedSet w) := by subst hw; exact cr_sortedSet hc
end
section
variable {K : PySem.W.Frag} {w : World} {δ δ' δ'' : List SV} {ta tb te : TE} {c : TT} {t u : TS} {d x y : D} {ds es : List D} {E : EndsD}
/-! ### walks over lists or tuples -/
theorem ei_enumA (h : ED K ta δ x) (e : itemsD x = some ds) : EI K (iEnumA K (tCons ta tNil)) δ (enumD ds) := by
  cases x with
  | list xs =>
    have e : xs = ds := Option.some.inj e
    subst e
    exact fun B0 H0 B H σ R S q => .inl (ei_enum h B0 H0 B H σ R S q)
  | tuple xs =>
    have e : xs = ds := Option.some.inj e
    subst e
    refine fun B0 H0 B H σ R S q => .inr (h B0 H0 B H σ _ S fun v B1 H1 s1 a => ?_)
    cases a with
    | tup hs hA =>
      refine ⟨_, _, rfl, sqT_up s1.bh hs, q _ B1 H1 s1 fun B H i e1 e2 => ⟨fun hi => ?_, fun hi => ?_⟩⟩
      · have hl : i < xs.length := by
          unfold enumD at hi
          rwa [List.length_map, List.length_range] at hi
        obtain ⟨x, g1, g2⟩ := hA.get (List.getElem?_eq_getElem hl)
        refine ⟨⟨_, x, sqT_up (e1.trans e2) hs, g1⟩, fun z H' yl => ?_⟩
        obtain ⟨T, x', rfl, nT, rfl, f1⟩ := yl
        have ex := (f1 _ (sqT_up (e1.trans e2) hs)).symm.trans g1
        cases ex
        have sn := same_new (o := .tup [.int (i : Nat), x]) (e2.free nT)
        refine ⟨upd B T (.tup [.int (i : Nat), x]), _, .new e2 nT, ?_, .tup (.inl (.inl upd_same)) (.cons (.int _) (.cons (Dq.up (e1.trans sn) _ _ g2) .nil))⟩
        unfold enumD
        rw [List.getElem?_map, List.getElem?_range hl]
        show some (PyData.tuple [.int (i : Nat), xs.getD i .none]) = _
        rw [List.getD_eq_getElem?_getD, List.getElem?_eq_getElem hl]
        rfl
      · refine ⟨_, sqT_up (e1.trans e2) hs, ?_⟩
        unfold enumD at hi
        rw [List.length_map, List.length_range] at hi
        rw [hA.len]; omega
  | _ => cases e
theorem ei_zipL (h : ED K ta δ (.list ds)) (h' : ED K tb δ (.list es)) : EI K (RZ.iZipA K (tCons ta (tCons tb tNil))) δ (zipD ds es) := fun B0 H0 B H σ R S q => by
  have := ei_zip h h' B0 H0 B H σ R S q
  refine h B0 H0 B H σ _ S fun v B1 H1 s1 a => h' B0 H0 B1 H1 σ _ (S.step s1) fun w B2 H2 s2 b => ?_
  cases a with
  | lst hs hA =>
    cases b with
    | lst ks kA =>
      have hA2 := DqAll.up s2.bb _ _ hA
      have hs2 := s2.bb.seq hs
      refine ⟨_, _, _, _, rfl, .inl ⟨s2.bh.seq hs2, s2.bh.seq ks, q _ B2 H2 (s1.trans s2) fun B H i e1 e2 => ⟨fun hi => ?_, fun hi => ?_⟩⟩⟩
      · have hl : i < (ds.zip es).length := by
          unfold zipD at hi
          rwa [List.length_map] at hi
        rw [List.length_zip] at hl
        obtain ⟨x, g1, g2⟩ := hA2.get (List.getElem?_eq_getElem (show i < ds.length by omega))
        obtain ⟨y, k1, k2⟩ := kA.get (List.getElem?_eq_getElem (show i < es.length by omega))
        refine ⟨⟨_, _, x, y, (e1.trans e2).seq hs2, (e1.trans e2).seq ks, g1, k1⟩, fun z H' yl => ?_⟩
        obtain ⟨T, x', y', rfl, nT, rfl, f1, f2⟩ := yl
        have ex := (f1 _ ((e1.trans e2).seq hs2)).symm.trans g1
        have ey := (f2 _ ((e1.trans e2).seq ks)).symm.trans k1
        cases ex; cases ey
        have sn := same_new (o := .tup [x, y]) (e2.free nT)
        refine ⟨upd B T (.tup [x, y]), _, .new e2 nT, ?_, .tup (.inl (.inl upd_same)) (.cons (Dq.up (e1.trans sn) _ _ g2) (.cons (Dq.up (e1.trans sn) _ _ k2) .nil))⟩
        unfold zipD
        have h1 : i < ds.length := by omega
        have h2 : i < es.length := by omega
        have hz : (ds.zip es)[i]? = some (ds[i], es[i]) := by
          rw [List.getElem?_zip_eq_some]
          exact ⟨List.getElem?_eq_getElem h1, List.getElem?_eq_getElem h2⟩
        rw [List.getElem?_map, hz]
        rfl
      · refine ⟨_, _, (e1.trans e2).seq hs2, (e1.trans e2).seq ks, ?_⟩
        unfold zipD at hi
        rw [List.length_map, List.length_zip] at hi
        rw [hA2.len, kA.len]
        omega
theorem ei_zipT (h : ED K ta δ (.tuple ds)) (h' : ED K tb δ (.tuple es)) : EI K (RZ.iZipA K (tCons ta (tCons tb tNil))) δ (zipD ds es) := fun B0 H0 B H σ R S q => by
  refine h B0 H0 B H σ _ S fun v B1 H1 s1 a => h' B0 H0 B1 H1 σ _ (S.step s1) fun w B2 H2 s2 b => ?_
  cases a with
  | tup hs hA =>
    cases b with
    | tup ks kA =>
      have hA2 := DqAll.up s2.bb _ _ hA
      have hs2 := sqT_up s2.bb hs
      refine ⟨_, _, _, _, rfl, .inr ⟨sqT_up s2.bh hs2, sqT_up s2.bh ks, q _ B2 H2 (s1.trans s2) fun B H i e1 e2 => ⟨fun hi => ?_, fun hi => ?_⟩⟩⟩
      · have hl : i < (ds.zip es).length := by
          unfold zipD at hi
          rwa [List.length_map] at hi
        rw [List.length_zip] at hl
        obtain ⟨x, g1, g2⟩ := hA2.get (List.getElem?_eq_getElem (show i < ds.length by omega))
        obtain ⟨y, k1, k2⟩ := kA.get (List.getElem?_eq_getElem (show i < es.length by omega))
        refine ⟨⟨_, _, x, y, sqT_up (e1.trans e2) hs2, sqT_up (e1.trans e2) ks, g1, k1⟩, fun z H' yl => ?_⟩
        obtain ⟨T, x', y', rfl, nT, rfl, f1, f2⟩ := yl
        have ex := (f1 _ (sqT_up (e1.trans e2) hs2)).symm.trans g1
        have ey := (f2 _ (sqT_up (e1.trans e2) ks)).symm.trans k1
        cases ex; cases ey
        have sn := same_new (o := .tup [x, y]) (e2.free nT)
        refine ⟨upd B T (.tup [x, y]), _, .new e2 nT, ?_, .tup (.inl (.inl upd_same)) (.cons (Dq.up (e1.trans sn) _ _ g2) (.cons (Dq.up (e1.trans sn) _ _ k2) .nil))⟩
        unfold zipD
        have h1 : i < ds.length := by omega
        have h2 : i < es.length := by omega
        have hz : (ds.zip es)[i]? = some (ds[i], es[i]) := by
          rw [List.getElem?_zip_eq_some]
          exact ⟨List.getElem?_eq_getElem h1, List.getElem?_eq_getElem h2⟩
        rw [List.getElem?_map, hz]
        rfl
      · refine ⟨_, _, sqT_up (e1.trans e2) hs2, sqT_up (e1.trans e2) ks, ?_⟩
        unfold zipD at hi
        rw [List.length_map, List.length_zip] at hi
        rw [hA2.len, kA.len]
        omega
/-! ### slices, sums of tuples, membership -/
theorem en_sliceB {tl th : TO} {lo hi : Option Int} (h : ED K te δ (.list ds)) (h1 : EO K tl δ lo) (h2 : EO K th δ hi) : EN K (tSl (rSlB K) te tl th) δ (cutD ds lo hi) := fun B0 H0 B H σ Q S q =>
  h B0 H0 B H σ _ S fun v B1 H1 s1 a => h1 B0 H0 B1 H1 σ _ (S.step s1) fun B2 H2 s2 => h2 B0 H0 B2 H2 σ _ ((S.step s1).step s2) fun B3 H3 s3 => by
    cases a with
    | lst hs hA =>
      have st := (s1.trans s2).trans s3
      refine .inl ⟨_, _, rfl, ((s2.trans s3).bb.trans s3.bh).seq hs, fun p hp => q p _ B3 _ (st.trans (.newOwn s3.bh hp)) (st.hh.free hp) (s3.bh.free hp) upd_same ?_⟩
      unfold cutV cutD
      rw [hA.len]
      exact (DqAll.up (s2.trans s3).bb _ _ hA).drop _ |>.take _
theorem ed_sliceT {tl th : TO} {lo hi : Option Int} (h : ED K te δ (.tuple ds)) (h1 : EO K tl δ lo) (h2 : EO K th δ hi) : ED K (tSl (rSlB K) te tl th) δ (.tuple (cutD ds lo hi)) := fun B0 H0 B H σ Q S q =>
  h B0 H0 B H σ _ S fun v B1 H1 s1 a => h1 B0 H0 B1 H1 σ _ (S.step s1) fun B2 H2 s2 => h2 B0 H0 B2 H2 σ _ ((S.step s1).step s2) fun B3 H3 s3 => by
    cases a with
    | @tup p vs _ hs hA =>
      have st := (s1.trans s2).trans s3
      have hs3 := sqT_up (s2.trans s3).bb hs
      have hA3 := DqAll.up (s2.trans s3).bb _ _ hA
      refine .inr ⟨_, _, rfl, sqT_up s3.bh hs3, fun hw => q _ B3 H3 st ?_, fun _ l hl => q _ (upd B3 l (.tup (cutV vs lo hi))) _ (st.trans (.new s3.bh hl)) (.tup (.inl (.inl upd_same)) ?_)⟩
      · have e : cutD ds lo hi = ds := by
          unfold cutD
          rw [hA.len] at hw
          rw [hw.1, hw.2, List.drop_zero, Nat.sub_zero, List.take_length]
        rw [e]
        exact .tup hs3 hA3
      · unfold cutV cutD
        rw [hA.len]
        exact DqAll.up (same_new (s3.bh.free hl)) _ _ ((hA3.drop _).take _)
theorem en_catA (ha : EN K ta δ ds) (hb : EN K tb δ es) (hl : ds.length + es.length ≤ sizeLine) : EN K (tOp (rCatA K) ta tb) δ (ds ++ es) := fun B0 H0 B H σ Q S q =>
  ha B0 H0 B H σ _ S fun p vs B1 H1 s1 n1 b1 e1 a1 => hb B0 H0 B1 H1 σ _ (S.step s1) fun p2 ws B2 H2 s2 n2 b2 e2 a2 =>
    .inl ⟨p, p2, vs, ws, rfl, rfl, s2.hh.at e1, e2, by rw [a1.len, a2.len]; exact hl, fun l hl => q l _ B2 _ ((s1.trans s2).trans (.newOwn s2.bh hl)) ((s1.trans s2).hh.free hl) (s2.bh.free hl) upd_same ((DqAll.up s2.bb _ _ a1).app a2)⟩
theorem ed_catT (ha : ED K ta δ (.tuple ds)) (hb : ED K tb δ (.tuple es)) (hn : ds ≠ []) (hl : ds.length + es.length ≤ sizeLine) : ED K (tOp (rCatA K) ta tb) δ (.tuple (ds ++ es)) := fun B0 H0 B H σ Q S q =>
  ha B0 H0 B H σ _ S fun v B1 H1 s1 a => hb B0 H0 B1 H1 σ _ (S.step s1) fun w B2 H2 s2 b => by
    cases a with
    | @tup p vs _ hs hA =>
      cases b with
      | @tup p2 ws _ ks kA =>
        have hs2 := sqT_up s2.bb hs
        have hA2 := DqAll.up s2.bb _ _ hA
        refine .inr ⟨_, _, _, _, rfl, rfl, sqT_up s2.bh hs2, sqT_up s2.bh ks, fun z => hn ?_, by rw [hA.len, kA.len]; exact hl, fun z => q _ B2 H2 (s1.trans s2) ?_, fun _ l hl2 => q _ (upd B2 l (.tup (vs ++ ws))) _ ((s1.trans s2).trans (.new s2.bh hl2)) (.tup (.inl (.inl upd_same)) (DqAll.up (same_new (s2.bh.free hl2)) _ _ (hA2.app kA)))⟩
        · have := hA.len
          rw [z] at this
          exact List.length_eq_zero_iff.mp this.symm
        · have e : es = [] := by
            have := kA.len
            rw [z] at this
            exact List.length_eq_zero_iff.mp this.symm
          rw [e, List.append_nil]
          exact .tup hs2 hA2
theorem inV_int {k : Int} : ∀ {ns : List Int}, inV (.int k) (ns.map V.int) = decide (k ∈ ns)
  | [] => by rfl
  | n :: ns => by
    have ih := inV_int (k := k) (ns := ns)
    unfold inV at ih ⊢
    rw [List.map_cons, List.any_cons, ih]
    show ((n == k) || decide (k ∈ ns)) = _
    by_cases e : n = k
    · subst e; simp
    · have e1 : (n == k) = false := by simpa using e
      have e2 : ¬ k = n := fun z => e z.symm
      simp [e1, e2]
theorem flat_ints : ∀ {ns : List Int}, (ns.map V.int).all flatV = true
  | [] => rfl
  | n :: ns => by rw [List.map_cons, List.all_cons, flat_ints]; rfl
theorem ed_inB {neg : Bool} {k : Int} {ns : List Int} (ha : ED K ta δ (.int k)) (hb : ED K tb δ y) (e : itemsD y = some (ns.map PyData.int)) : ED K (tOp (rIn K neg) ta tb) δ (.bool (if neg then !decide (k ∈ ns) else decide (k ∈ ns))) := fun B0 H0 B H σ Q S q =>
  ha B0 H0 B H σ _ S fun v B1 H1 s1 a => hb B0 H0 B1 H1 σ _ (S.step s1) fun w B2 H2 s2 b => by
    cases Dq.int_inv a
    cases b with
    | lst hs hA =>
      have e : _ = ns.map PyData.int := Option.some.inj e
      subst e
      cases hA.ints
      exact ⟨_, _, rfl, .inl (s2.bh.seq hs), rfl, flat_ints, by rw [inV_int]; exact q _ B2 H2 (s1.trans s2) (.bl _)⟩
    | tup hs hA =>
      have e : _ = ns.map PyData.int := Option.some.inj e
      subst e
      cases hA.ints
      exact ⟨_, _, rfl, .inr (sqT_up s2.bh hs), rfl, flat_ints, by rw [inV_int]; exact q _ B2 H2 (s1.trans s2) (.bl _)⟩
    | _ => cases e
theorem ed_in {k : Int} {ns : List Int} (ha : ED K ta δ (.int k)) (hb : ED K tb δ y) (e : itemsD y = some (ns.map PyData.int)) : ED K (tOp (rIn K false) ta tb) δ (.bool (decide (k ∈ ns))) := ed_inB ha hb e
theorem ed_notin {k : Int} {ns : List Int} (ha : ED K ta δ (.int k)) (hb : ED K tb δ y) (e : itemsD y = some (ns.map PyData.int)) : ED K (tOp (rIn K true) ta tb) δ (.bool (!decide (k ∈ ns))) := ed_inB ha hb e
/-- sorted(set(xs)) of ints -/
theorem ep_sortedSet {ns : List Int} (h : ED K te δ (.list (ns.map PyData.int))) (hl : ns.length ≤ 60) :
    EP K (tCB (rSortedSet w) (tCons (tCB (rSetL K w) (tCons te tNil)) tNil)) δ (fun d => ∃ ms : List Int, d = .list (ms.map PyData.int) ∧ ms.Pairwise (· < ·) ∧ (∀ k, k ∈ ms ↔ k ∈ ns) ∧ ms.length ≤ ns.length) := fun B0 H0 B H σ Q S q =>
  h B0 H0 B H σ _ S fun v B1 H1 s1 a => by
    cases a with
    | lst hs hA =>
      cases hA.ints
      refine ⟨_, ns, rfl, s1.bh.seq hs, by omega, fun z c hz hc => ⟨z, _, c, rfl, upd_same, by omega, fun ms p hp hm hlen np => ?_⟩⟩
      have s2 : Stp B1 H1 B1 (upd H1 z (SetO w z (fun j => decide (j ∈ ns)) c)) := .newOwn s1.bh hz
      refine q _ (upd B1 p (.lst (ms.map V.int))) _ _ ((s1.trans s2).trans (.new s2.bh np)) (.lst (.inl (.inl upd_same)) DqAll.ofInts) ⟨ms, rfl, hp, fun k => ?_, by omega⟩
      rw [hm k, decide_eq_true_eq]
/-! ### comprehensions with any target -/
def wipeD (δ : List SV) : List Nat → List SV
  | [] => δ
  | v :: vs => (wipeD δ vs).set v .no
theorem wipe_get {σ : L2.St} : ∀ (vs : List Nat) (j : Nat), (wipe σ vs)[j]? = if j ∈ vs then (σ[j]?).map (fun _ => none) else σ[j]?
  | [], j => by simp [wipe]
  | v :: vs, j => by
    show ((wipe σ vs).set v none)[j]? = _
    by_cases e : v = j
    · subst e
      rw [if_pos (List.mem_cons_self ..), List.getElem?_set]
      rw [if_pos rfl, wipe_length]
      by_cases hl : v < σ.length
      · rw [if_pos hl, List.getElem?_eq_getElem hl]; rfl
      · rw [if_neg hl, List.getElem?_eq_none (by omega)]; rfl
    · rw [List.getElem?_set_ne e, wipe_get vs j]
      by_cases h : j ∈ vs
      · rw [if_pos h, if_pos (List.mem_cons_of_mem _ h)]
      · rw [if_neg h, if_neg (fun z => (List.mem_cons.mp z).elim (fun q => e q.symm) h)]
theorem wipe_set {σ : L2.St} {vs : List Nat} {i : Nat} {x : Option V} (h : i ∈ vs) : wipe (σ.set i x) vs = wipe σ vs := by
  apply List.ext_getElem?
  intro j
  rw [wipe_get, wipe_get]
  by_cases hj : j ∈ vs
  · rw [if_pos hj, if_pos hj]
    by_cases e : i = j
    · subst e
      rw [List.getElem?_set, if_pos rfl]
      by_cases hl : i < σ.length
      · rw [if_pos hl, List.getElem?_eq_getElem hl]; rfl
      · rw [if_neg hl, List.getElem?_eq_none (by omega)]
    · rw [List.getElem?_set_ne e]
  · rw [if_neg hj, if_neg hj, List.getElem?_set_ne (fun (z : i = j) => hj (z ▸ h))]
theorem wipe_wipe {σ : L2.St} {vs : List Nat} : wipe (wipe σ vs) vs = wipe σ vs := by
  apply List.ext_getElem?
  intro j
  rw [wipe_get, wipe_get]
  by_cases hj : j ∈ vs
  · rw [if_pos hj, if_pos hj, Option.map_map]; rfl
  · rw [if_neg hj, if_neg hj]
theorem Sd.wipe {B0 H0 B H : Hp} {σ : L2.St} (S : Sd K B0 H0 B H σ δ) : ∀ vs : List Nat, Sd K B0 H0 B H (L2.wipe σ vs) (wipeD δ vs)
  | [] => S
  | v :: vs => (Sd.wipe S vs).forget
def GW (K : PySem.W.Frag) (g : TG) (vs : List Nat) (δ : List SV) (d : D) (δ' : List SV) : Prop := ∀ (B0 H0 B H : Hp) (σ : L2.St) (v : V) (Q : L2.St → Hp → Prop), Sd K B0 H0 B H σ δ → Dq K B v d → (∀ σ', Sd K B0 H0 B H σ' δ' → L2.wipe σ' vs = L2.wipe σ vs → Q σ' H) → g v σ H Q
def GWs (K : PySem.W.Frag) (g : TGs) (vs : List Nat) (δ : List SV) (ds : List D) (δ' : List SV) : Prop := ∀ (B0 H0 B H : Hp) (σ : L2.St) (us : List V) (Q : L2.St → Hp → Prop), Sd K B0 H0 B H σ δ → DqAll K B us ds → (∀ σ', Sd K B0 H0 B H σ' δ' → L2.wipe σ' vs = L2.wipe σ vs → Q σ' H) → g us σ H Q
theorem gw_name {i : Nat} {vs : List Nat} (h : i ∈ vs) : GW K (gName i) vs δ d (δ.set i (.val d)) := fun B0 H0 B H σ v Q S a q => q _ (S.setVal a) (wipe_set h)
theorem gws_nil {vs : List Nat} : GWs K gNil vs δ [] δ := fun B0 H0 B H σ us Q S h q => by
  cases h
  exact ⟨rfl, q σ S rfl⟩
theorem gws_cons {g : TG} {gs : TGs} {vs : List Nat} (h1 : GW K g vs δ d δ') (h2 : GWs K gs vs δ' ds δ'') : GWs K (gCons g gs) vs δ (d :: ds) δ'' := fun B0 H0 B H σ us Q S h q => by
  cases h with
  | cons a b => exact ⟨_, _, rfl, h1 B0 H0 B H σ _ _ S a fun σ' S' e => h2 B0 H0 B H σ' _ _ S' b fun σ2 S2 e2 => q σ2 S2 (e2.trans e)⟩
theorem gw_tup {g : TGs} {n : Nat} {vs : List Nat} (h : GWs K g vs δ ds δ') (e : ds.length = n) : GW K (gTup K n g) vs δ (.tuple ds) δ' := fun B0 H0 B H σ v Q S a q => by
  cases a with
  | tup hs hA => exact ⟨_, _, rfl, sqT_up S.hist.bh hs, hA.len.trans e, h B0 H0 B H σ _ Q S hA q⟩
theorem lcW_at {α : Type} {xs : List α} {gd : α → D} {wi : TI} {g : TG} {tt : TT} {vs : List Nat} {p : α → Bool} {f : α → D} {af : α → List SV} {B0 H0 B H : Hp} {σ : L2.St} {Q : VK} (S : Sd K B0 H0 B H σ δ)
    (hw : ∀ R, (∀ J B1 H1, Stp B H B1 H1 → YD K J B1 (xs.map gd) → R J H1) → wi σ H R) (hl : xs.length ≤ sizeLine)
    (hg : ∀ x, x ∈ xs → GW K g vs (wipeD δ vs) (gd x) (af x)) (ht : ∀ x, x ∈ xs → ET K tt (af x) (p x)) (he : ∀ x, x ∈ xs → p x = true → ED K te (af x) (f x))
    (q : ∀ l ws B' H', Stp B H B' H' → H l = none → B' l = none → H' l = some (.lst ws) → DqAll K B' ws ((xs.filter p).map f) → Q (.ref l) H') : tLc wi g tt te vs σ H Q :=
  hw _ fun J B1 H1 s1 yd L nL => by
    have S1 := S.step s1
    have hfoot := new_foot (S := S1) nL
    have h0L := S1.hist.hh.free nL
    refine ⟨fun k m H' => m = xs.length - k ∧ k ≤ xs.length ∧ ∃ B' acc, Sd K B1 H0 B' H' σ δ ∧ B' L = none ∧ H' L = some (.lst acc) ∧ DqAll K B' acc (((xs.take k).filter p).map f) ∧ Stp B1 H1 B' H', ⟨_, rfl, Nat.zero_le _, B1, [], ?_, s1.bh.free nL, upd_same, ?_, .newOwn s1.bh nL⟩, ?_⟩
    · exact (S1.past S1.hist.bb (Sam.refl _)).step (.newOwn s1.bh nL)
    · rw [List.take_zero]; exact .nil
    rintro k m H' ⟨rfl, hk, B', acc, S', bL, hL, hA, sp⟩
    obtain ⟨y1, y2⟩ := yd B' H' k S'.hist.bb S'.hist.bh
    by_cases hlt : k < xs.length
    · obtain ⟨go, yy⟩ := y1 (by rw [List.length_map]; exact hlt)
      refine .inr ⟨go, fun H'' => ∃ B'' acc, Sd K B1 H0 B'' H'' σ δ ∧ B'' L = none ∧ H'' L = some (.lst acc) ∧ DqAll K B'' acc (((xs.take (k + 1)).filter p).map f) ∧ Stp B1 H1 B'' H'', fun H'' z => ⟨xs.length - (k + 1), by omega, rfl, hlt, z⟩, fun x H2 yl => ?_⟩
      obtain ⟨B2, d', s2, ed', dp⟩ := yy x H2 yl
      have ed : xs[k]? = some xs[k] := List.getElem?_eq_getElem hlt
      have eg : d' = gd xs[k] := by
        rw [List.getElem?_map, ed] at ed'
        exact (Option.some.inj ed').symm
      subst eg
      have hm : xs[k] ∈ xs := List.getElem_mem hlt
      have hLne : H' L ≠ none := by rw [hL]; exact fun z => nomatch z
      have S2 := S'.step s2
      refine hg xs[k] hm B1 H0 B2 H2 _ _ _ (S2.wipe vs) dp fun σ3 S3 ew => ⟨ew.trans wipe_wipe, ht xs[k] hm B1 H0 B2 H2 _ _ S3 fun B3 H3 s3 => ?_⟩
      cases e : p xs[k] with
      | true =>
        refine iteT (he xs[k] hm e B1 H0 B3 H3 _ _ (S3.step s3) fun v B4 H4 s4 dv => ?_)
        have st := (s2.trans s3).trans s4
        have hL4 : H4 L = some (.lst acc) := st.hh.at hL
        have bL4 : B4 L = none := st.fr L hLne bL
        have hA4 := DqAll.up st.bb _ _ hA
        refine ⟨acc, hL4, ?_, B4, acc ++ [v], ?_, bL4, upd_same, ?_, ?_⟩
        · have h1 := hA.len
          have h2 : (((xs.take k).filter p).map f).length ≤ k := by
            rw [List.length_map]
            exact Nat.le_trans (List.length_filter_le _ _) (by rw [List.length_take]; omega)
          omega
        · exact (S'.step st).updFree bL4 h0L hfoot (.inr ⟨_, hL4, nt_lst⟩) nt_lst.1
        · rw [map_take_succ ed, if_pos e]
          exact hA4.app (.cons dv .nil)
        · exact (sp.trans st).updNew nL bL4 ⟨_, hL4, nt_lst⟩ nt_lst.1
      | false =>
        refine iteF ⟨B3, acc, S'.step (s2.trans s3), (s2.trans s3).fr L hLne bL, (s2.trans s3).hh.at hL, ?_, sp.trans (s2.trans s3)⟩
        rw [map_take_succ ed, e, if_neg Bool.false_ne_true, List.append_nil]
        exact DqAll.up (s2.trans s3).bb _ _ hA
    · have e : k = xs.length := by omega
      subst e
      rw [List.take_length] at hA
      exact .inl ⟨y2 (by rw [List.length_map]), q L acc B' H' (s1.trans sp) (s1.hh.free nL) bL hL hA⟩
theorem en_lcW {α : Type} {xs : List α} {gd : α → D} {wi : TI} {g : TG} {tt : TT} {vs : List Nat} {p : α → Bool} {f : α → D} {af : α → List SV} (hw : EI K wi δ (xs.map gd)) (hl : xs.length ≤ sizeLine)
    (hg : ∀ x, x ∈ xs → GW K g vs (wipeD δ vs) (gd x) (af x)) (ht : ∀ x, x ∈ xs → ET K tt (af x) (p x)) (he : ∀ x, x ∈ xs → p x = true → ED K te (af x) (f x)) : EN K (tLc wi g tt te vs) δ ((xs.filter p).map f) := fun B0 H0 B H σ Q S q => lcW_at S (hw B0 H0 B H σ · S) hl hg ht he q
theorem en_lcA {α : Type} {xs : List α} {gd : α → D} {wi : TI} {g : TG} {vs : List Nat} {f : α → D} {af : α → List SV} (hw : EI K wi δ (xs.map gd)) (hl : xs.length ≤ sizeLine)
    (hg : ∀ x, x ∈ xs → GW K g vs (wipeD δ vs) (gd x) (af x)) (he : ∀ x, x ∈ xs → ED K te (af x) (f x)) : EN K (tLc wi g tYes te vs) δ (xs.map f) := by
  have := en_lcW (p := fun _ => true) (f := f) (te := te) hw hl hg (fun _ _ => et_yes) fun d hd _ => he d hd
  rwa [List.filter_eq_self.mpr (fun _ _ => rfl)] at this
end
end DX

namespace DX
open PySem L2
variable [TabEnv]
section
variable {K : PySem.W.Frag} {w : World} {δ δ' δ'' : List SV} {ta tb te : TE} {c : TT} {t u : TS} {d x y : D} {ds es : List D} {E : EndsD}
theorem EP.mono {P P' : D → Prop} (h : EP K te δ P) (m : ∀ d, P d → P' d) : EP K te δ P' := fun B0 H0 B H σ Q S q => h B0 H0 B H σ Q S fun v B' H' d s a p => q v B' H' d s a (m d p)
theorem ep_catT {P Q : D → Prop} (ha : ED K ta δ (.tuple ds)) (hb : EP K tb δ P) (h : ∀ d, P d → ∃ es, d = .tuple es ∧ ds ≠ [] ∧ ds.length + es.length ≤ sizeLine ∧ Q (.tuple (ds ++ es))) : EP K (tOp (rCatA K) ta tb) δ Q := fun B0 H0 B H σ q0 S q =>
  ha B0 H0 B H σ _ S fun v B1 H1 s1 a => hb B0 H0 B1 H1 σ _ (S.step s1) fun w B2 H2 d s2 b pd => by
    obtain ⟨es, rfl, hn, hl, pq⟩ := h d pd
    cases a with
    | @tup p vs _ hs hA =>
      cases b with
      | @tup p2 ws _ ks kA =>
        have hs2 := sqT_up s2.bb hs
        have hA2 := DqAll.up s2.bb _ _ hA
        refine .inr ⟨_, _, _, _, rfl, rfl, sqT_up s2.bh hs2, sqT_up s2.bh ks, fun z => hn ?_, by rw [hA.len, kA.len]; exact hl, fun z => q _ B2 H2 _ (s1.trans s2) ?_ pq, fun _ l hl2 => q _ (upd B2 l (.tup (vs ++ ws))) _ _ ((s1.trans s2).trans (.new s2.bh hl2)) (.tup (.inl (.inl upd_same)) (DqAll.up (same_new (s2.bh.free hl2)) _ _ (hA2.app kA))) pq⟩
        · have := hA.len
          rw [z] at this
          exact List.length_eq_zero_iff.mp this.symm
        · have e : es = [] := by
            have := kA.len
            rw [z] at this
            exact List.length_eq_zero_iff.mp this.symm
          rw [e, List.append_nil]
          exact .tup hs2 hA2
theorem wp_appP {i : Nat} {P : D → Prop} (e : δ[i]? = some (.own (.l ds))) (h : EP K te δ P) (hl : ds.length < sizeLine) (q : ∀ d, P d → E.nx (δ.set i (.own (.l (ds ++ [d]))))) : WP K (tDrop (tBM K "list" rAppend (tVar i) (tCons te tNil))) E δ := fun B0 H0 B H σ D L S => by
  obtain ⟨p, vs, a1, hp, bp, h0, dp⟩ := S.slotOwn e
  refine ⟨_, a1, .inl ⟨rfl, vs, .inl (.inl hp)⟩, h B0 H0 B H σ _ S fun v B1 H1 d s1 a pd => ?_⟩
  have S1 := S.step s1
  obtain ⟨p', vs', a1', hp', bp', h0', dp'⟩ := S1.slotOwn e
  rw [a1] at a1'; cases a1'
  refine ⟨p, vs', v, rfl, rfl, hp', by rw [dp'.len]; exact hl, L.nx _ _ B1 _ (own_upd (yo := .l _) S1 e a1 bp' h0' ⟨_, rfl, dp'.app (.cons a .nil)⟩) (q d pd)⟩
/-- arguments of which one is known by a property -/
def EAP (K : PySem.W.Frag) (ta : TA) (δ : List SV) (P : List D → Prop) : Prop := ∀ (B0 H0 B H : Hp) (σ : L2.St) (Q : List V → Hp → Prop), Sd K B0 H0 B H σ δ → (∀ vs B' H' ds, Stp B H B' H' → DqAll K B' vs ds → P ds → Q vs H') → ta σ H Q
theorem eap_nil : EAP K tNil δ (fun ds => ds = []) := fun B0 H0 B H σ Q S q => q [] B H [] (.refl S.hist.bh) .nil rfl
theorem eap_cons {tr : TA} {P : D → Prop} {R : List D → Prop} (h : EP K te δ P) (hr : EAP K tr δ R) : EAP K (tCons te tr) δ (fun ds => ∃ d es, ds = d :: es ∧ P d ∧ R es) := fun B0 H0 B H σ Q S q =>
  h B0 H0 B H σ _ S fun v B1 H1 d s1 a p => hr B0 H0 B1 H1 σ _ (S.step s1) fun vs B2 H2 es s2 b r => q _ B2 H2 _ (s1.trans s2) (.cons (Dq.up s2.bb _ _ a) b) ⟨d, es, rfl, p, r⟩
theorem ep_tup {ta : TA} {P : List D → Prop} (h : EAP K ta δ P) (hl : ∀ ds, P ds → ds.length ≤ sizeLine) : EP K (tTup ta) δ (fun d => ∃ ds, d = .tuple ds ∧ P ds) := fun B0 H0 B H σ Q S q =>
  h B0 H0 B H σ _ S fun vs B1 H1 ds s1 a p => ⟨by rw [a.len]; exact hl ds p, fun l hp =>
    q (.ref l) (upd B1 l (.tup vs)) _ _ (s1.trans (.new s1.bh hp)) (.tup (.inl (.inl upd_same)) (DqAll.up (same_new (s1.bh.free hp)) _ _ a)) ⟨ds, rfl, p⟩⟩
theorem ep_callP {ta : TA} {Pre : List D → Prop} {Post : List D → D → Prop} {X : XK} {R : List D → Prop} (h : EAP K ta δ R) (r : ∀ ds, R ds → Pre ds) : EP K (tCall (spP K Pre Post) [] X ta) δ (fun d => ∃ ds, R ds ∧ Post ds d) := fun B0 H0 B H σ Q S q =>
  h B0 H0 B H σ _ S fun vs B1 H1 ds s1 a p => ⟨B1, ds, r ds p, s1.bh, by rw [List.append_nil]; exact a, fun v B' H' d s2 b p2 => q v B' H' d (s1.trans s2) b ⟨ds, p, p2⟩⟩
theorem ep_callD {ta : TA} {R : List D → D → Prop} {X : XK} {P : List D → Prop} (h : EAP K ta δ P) (r : ∀ ds, P ds → ∃ d, R ds d) : EP K (tCall (spD K R) [] X ta) δ (fun d => ∃ ds, P ds ∧ R ds d) := fun B0 H0 B H σ Q S q =>
  h B0 H0 B H σ _ S fun vs B1 H1 ds s1 a p => by
    obtain ⟨d, rd⟩ := r ds p
    exact ⟨B1, ds, d, rd, s1.bh, by rw [List.append_nil]; exact a, fun v B' H' s2 b => q v B' H' d (s1.trans s2) b ⟨ds, p, rd⟩⟩
end
end DX

namespace DX
open PySem L2
variable [TabEnv]
/-! ### answers that are new lists -/
section
variable {K : PySem.W.Frag} {δ δ' : List SV} {ta tb te : TE} {c : TT} {t u : TS} {d x y : D} {ds es : List D} {E : EndsD}
theorem wp_retL (h : EN K te δ ds) (q : E.rn ds) : WP K (tRet te) E δ := fun B0 H0 B H σ D L S =>
  h B0 H0 B H σ _ S fun p vs B1 H1 s1 np bp hp a => L.rn p vs B1 H1 ds (s1.hist S.hist) (S.hist.hh.free np) bp hp a q
theorem wp_retOwnL {i : Nat} (e : δ[i]? = some (.own (.l ds))) (q : E.rn ds) : WP K (tRet (tVar i)) E δ := fun B0 H0 B H σ D L S => by
  obtain ⟨p, vs, a1, hp, bp, h0, dp⟩ := S.slotOwn e
  exact ⟨_, a1, L.rn p vs B H ds S.hist h0 bp hp dp q⟩
def spN (K : PySem.W.Frag) (R : List D → List D → Prop) : Sp := fun vs H Q _ => ∃ B ds es, R ds es ∧ Bh B H ∧ DqAll K B vs ds ∧ ∀ p ws B' H', Stp B H B' H' → H p = none → B' p = none → H' p = some (.lst ws) → DqAll K B' ws es → Q (.ref p) H'
theorem en_call {ta : TA} {R : List D → List D → Prop} {X : XK} (h : EA K ta δ ds) (r : R ds es) : EN K (tCall (spN K R) [] X ta) δ es := fun B0 H0 B H σ Q S q =>
  h B0 H0 B H σ _ S fun vs B1 H1 s1 a => ⟨B1, ds, es, r, s1.bh, by rw [List.append_nil]; exact a, fun p ws B' H' s2 np bp hp b => q p ws B' H' (s1.trans s2) (s1.hh.free np) bp hp b⟩
end
section
variable {P : Program} {w : World} {K : PySem.W.Frag} {mg : Str → Option Value} {base : Heap}
theorem ok_wpN {x qual : Str} {st : Stmt} {f : Addr} {fd : FuncData} {N ps : List Str} {k : Nat} {R : List D → List D → Prop} (F : Fun K x qual st f fd) (S : FnScope N ps (defScope st)) (len : ∀ ds es, R ds es → ds.length = ps.length)
    (hb : ∀ (cdv : Value), fd.code = cdv → ∀ (A : Around) (outer : List Env) (s : Shared) (H : Hp) (E : XK), Room k (A.deeper (PyProof.Rows.envOfC qual (defScope st) s.heap.objs.size f cdv)) →
      ∃ t, PSs (cxOf CX0 P w K mg base N qual (defScope st) f cdv A outer s H E).nox (defBody st) t ∧ ∀ ds es, R ds es → WP K t { nx := fun _ => False, rt := fun _ => False, rn := fun es' => es' = es } (startD N ds)) : FnOk P w K mg base CX0 (k + 1) f fd ps (spN K R) := by
  refine F.okC S (fun vs H Q E h => ?_) (fun cdv hcv A outer s H vs Q E hr h => ?_)
  · obtain ⟨B, ds, es, r, bh, a, _⟩ := h
    rw [a.len]; exact len ds es r
  · obtain ⟨t, ht, q⟩ := hb cdv hcv A outer s H E hr
    refine ⟨t, ht, ?_⟩
    obtain ⟨B, ds, es, r, bh, a, hq⟩ := h
    refine q ds es r B H B H _ _ ⟨fun _ _ _ _ _ z => z.elim, fun _ _ _ _ _ _ z => z.elim, fun _ _ _ _ _ z => z.elim, fun _ _ _ _ _ z => z.elim, fun p vs B' H' ds' hh n0 nb hp da e => ?_, fun _ _ _ _ _ _ _ _ z => z.elim⟩ (start_sd bh a)
    subst e
    exact hq p vs B' H' ⟨hh.bb, hh.bh, hh.hh, hh.fr⟩ n0 nb hp da
end
/-! ### objects that are read -/
abbrev FsD := List (Str × D)
section
variable {K : PySem.W.Frag} {δ δ' : List SV} {ta tb te : TE} {d x y : D} {ds es : List D} {C : Addr} {fs : FsD}
theorem Sd.slotOb {B0 H0 B H : Hp} {σ : L2.St} (S : Sd K B0 H0 B H σ δ) {i : Nat} (e : δ[i]? = some (.ob C fs)) : ∃ p dx ws, σ[i]? = some (some (.ref p)) ∧ H p = some (.ins C dx ws) ∧ (∀ x, (ws.lookup x).isSome → x ∈ fs.map (·.1)) ∧ FldOk K B ws fs := by
  obtain ⟨o, a, p, dx, ws, rfl, r⟩ := S.ok i _ e
  exact ⟨p, dx, ws, a, r⟩
theorem ed_fld {i : Nat} {f : Str} (e : δ[i]? = some (.ob C fs)) (hm : (f, d) ∈ fs) (c : Cls K C) (n : NoAttr K C f) : ED K (tFld K (tVar i) f) δ d := fun B0 H0 B H σ Q S q => by
  obtain ⟨p, dx, ws, a, hp, _, hf⟩ := S.slotOb e
  obtain ⟨v, hv, dv⟩ := hf f d hm
  exact ⟨_, a, p, C, dx, ws, v, rfl, hp, c, n, hv, q v B H (.refl S.hist.bh) dv⟩
def Few (ws : List (Str × V)) (fs : FsD) : Prop := ∀ x, (ws.lookup x).isSome → x ∈ fs.map (·.1)
theorem Few.none {ws : List (Str × V)} (h : Few ws fs) {m : Str} (hm : m ∉ fs.map (·.1)) : ws.lookup m = none := by
  cases e : ws.lookup m with
  | none => rfl
  | some v => exact absurd (h m (by rw [e]; rfl)) hm
/-- a method that reads its object: some datum -/
def spR (K : PySem.W.Frag) (C : Addr) (Pre : FsD → List D → Prop) (Post : FsD → List D → D → Prop) : Sp := fun vs H Q _ => ∃ B p dx ws fs us ds, vs = .ref p :: us ∧ Pre fs ds ∧ Bh B H ∧ H p = some (.ins C dx ws) ∧ Few ws fs ∧ FldOk K B ws fs ∧ DqAll K B us ds ∧ ∀ v B' H' d, Stp B H B' H' → Dq K B' v d → Post fs ds d → Q v H'
/-- a method that reads its object: a new list -/
def spRN (K : PySem.W.Frag) (C : Addr) (Pre : FsD → List D → Prop) (Post : FsD → List D → List D → Prop) : Sp := fun vs H Q _ => ∃ B p dx ws fs us ds, vs = .ref p :: us ∧ Pre fs ds ∧ Bh B H ∧ H p = some (.ins C dx ws) ∧ Few ws fs ∧ FldOk K B ws fs ∧ DqAll K B us ds ∧
  ∀ l vs B' H' es, Stp B H B' H' → H l = none → B' l = none → H' l = some (.lst vs) → DqAll K B' vs es → Post fs ds es → Q (.ref l) H'
theorem ep_meth {i : Nat} {m : Str} {ta : TA} {Pre : FsD → List D → Prop} {Post : FsD → List D → D → Prop} {X : XK} (e : δ[i]? = some (.ob C fs)) (h : EA K ta δ ds) (r : Pre fs ds) (hm : m ∉ fs.map (·.1)) : EP K (tMeth C m (spR K C Pre Post) [] X (tVar i) ta) δ (Post fs ds) := fun B0 H0 B H σ Q S q => by
  obtain ⟨p, dx, ws, a, hp, fw, hf⟩ := S.slotOb e
  refine ⟨_, a, p, dx, ws, rfl, hp, Few.none fw hm, h B0 H0 B H σ _ S fun vs B1 H1 s1 dv => ?_⟩
  exact ⟨B1, p, dx, ws, fs, vs, ds, by rw [List.append_nil], r, s1.bh, s1.hh.at hp, fw, hf.up s1.bb, dv, fun v B' H' d s2 b pd => q v B' H' d (s1.trans s2) b pd⟩
theorem ed_meth {i : Nat} {m : Str} {ta : TA} {Pre : FsD → List D → Prop} {Post : FsD → List D → D → Prop} {X : XK} (e : δ[i]? = some (.ob C fs)) (h : EA K ta δ ds) (r : Pre fs ds) (hm : m ∉ fs.map (·.1)) (u : ∀ d', Post fs ds d' → d' = d) : ED K (tMeth C m (spR K C Pre Post) [] X (tVar i) ta) δ d := fun B0 H0 B H σ Q S q =>
  ep_meth e h r hm B0 H0 B H σ Q S fun v B' H' d' s b pd => by
    have := u d' pd
    subst this
    exact q v B' H' s b
theorem en_meth {i : Nat} {m : Str} {ta : TA} {Pre : FsD → List D → Prop} {Post : FsD → List D → List D → Prop} {X : XK} (e : δ[i]? = some (.ob C fs)) (h : EA K ta δ ds) (r : Pre fs ds) (hm : m ∉ fs.map (·.1)) (u : ∀ es', Post fs ds es' → es' = es) : EN K (tMeth C m (spRN K C Pre Post) [] X (tVar i) ta) δ es := fun B0 H0 B H σ Q S q => by
  obtain ⟨p, dx, ws, a, hp, fw, hf⟩ := S.slotOb e
  refine ⟨_, a, p, dx, ws, rfl, hp, Few.none fw hm, h B0 H0 B H σ _ S fun vs B1 H1 s1 dv => ?_⟩
  refine ⟨B1, p, dx, ws, fs, vs, ds, by rw [List.append_nil], r, s1.bh, s1.hh.at hp, fw, hf.up s1.bb, dv, fun l us B' H' es' s2 nl bl hl b pd => ?_⟩
  have := u es' pd
  subst this
  exact q l us B' H' (s1.trans s2) (s1.hh.free nl) bl hl b
end
/-- the start of a method: its object, then the data -/
def startR (N : List Str) (C : Addr) (fs : FsD) (ds : List D) : List SV := .ob C fs :: (ds.map .val ++ List.replicate (N.length - 1 - ds.length) .no)
section
variable {P : Program} {w : World} {K : PySem.W.Frag} {mg : Str → Option Value} {base : Heap} {C : Addr}
theorem start_sdR {N : List Str} {p dx : Addr} {ws : List (Str × V)} {fs : FsD} {us : List V} {ds : List D} {B H : Hp} (hN : 1 + ds.length ≤ N.length) (bh : Bh B H) (hp : H p = some (.ins C dx ws)) (fw : Few ws fs) (hf : FldOk K B ws fs) (h : DqAll K B us ds) :
    Sd K B H B H (L2.start N (.ref p :: us)) (startR N C fs ds) := by
  have hl := h.len
  have S0 := start_sd (N := N.tail) bh h
  have e1 : L2.start N (.ref p :: us) = some (.ref p) :: L2.start N.tail us := by
    unfold L2.start
    rw [List.map_cons, List.cons_append, List.length_cons, List.length_tail]
    congr 2
    congr 1
    omega
  have e2 : startR N C fs ds = .ob C fs :: startD N.tail ds := by
    unfold startR startD
    rw [List.length_tail]
  rw [e1, e2]
  refine ⟨S0.hist, by rw [List.length_cons, List.length_cons, S0.len], fun i s e => ?_, fun i j s t o q n a b c d z mz mt => ?_⟩
  · cases i with
    | zero =>
      have e : SV.ob C fs = s := Option.some.inj e
      subst e
      exact ⟨_, rfl, p, dx, ws, rfl, hp, fw, hf⟩
    | succ i => exact S0.ok i s e
  · have away : ∀ (k : Nat) (s : SV) (o : Option V), (startD N.tail ds)[k]? = some s → foot s o = [] := fun k s o e => by
      unfold startD at e
      have hm := List.mem_of_getElem? e
      rcases List.mem_append.mp hm with h | h
      · obtain ⟨y, _, rfl⟩ := List.mem_map.mp h; rfl
      · rw [(List.mem_replicate.mp h).2]; rfl
    cases i with
    | zero =>
      cases j with
      | zero => exact n rfl
      | succ j => rw [away j t q b] at mt; cases mt
    | succ i => rw [away i s o a] at mz; cases mz
theorem ok_wpR {x qual : Str} {st : Stmt} {f : Addr} {fd : FuncData} {N ps : List Str} {k : Nat} {Pre : FsD → List D → Prop} {Post : FsD → List D → D → Prop} (F : Fun K x qual st f fd) (S : FnScope N ps (defScope st)) (hN : ps.length ≤ N.length) (len : ∀ fs ds, Pre fs ds → 1 + ds.length = ps.length)
    (hb : ∀ (cdv : Value), fd.code = cdv → ∀ (A : Around) (outer : List Env) (s : Shared) (H : Hp) (E : XK), Room k (A.deeper (PyProof.Rows.envOfC qual (defScope st) s.heap.objs.size f cdv)) →
      ∃ t, PSs (cxOf CX0 P w K mg base N qual (defScope st) f cdv A outer s H E).nox (defBody st) t ∧ ∀ fs ds, Pre fs ds → WP K t { nx := fun _ => Post fs ds .none, rt := fun d' => Post fs ds d' } (startR N C fs ds)) : FnOk P w K mg base CX0 (k + 1) f fd ps (spR K C Pre Post) := by
  refine F.okC S (fun vs H Q E h => ?_) (fun cdv hcv A outer s H vs Q E hr h => ?_)
  · obtain ⟨B, p, dx, ws, fs, us, ds, rfl, r, bh, hp, fw, hf, a, _⟩ := h
    rw [List.length_cons, a.len, ← len fs ds r]; omega
  · obtain ⟨t, ht, q⟩ := hb cdv hcv A outer s H E hr
    refine ⟨t, ht, ?_⟩
    obtain ⟨B, p, dx, ws, fs, us, ds, rfl, r, bh, hp, fw, hf, a, hq⟩ := h
    refine q fs ds r B H B H _ _ ⟨fun σ' H' B' δ' S' e => ?_, fun v B' H' d' hh dv e => ?_, fun _ _ _ _ _ z => z.elim, fun _ _ _ _ _ z => z.elim, fun _ _ _ _ _ _ _ _ _ _ z => z.elim, fun _ _ _ _ _ _ _ _ z => z.elim⟩ (start_sdR (by have := len fs ds r; omega) bh hp fw hf a)
    · exact hq _ B' H' _ ⟨S'.hist.bb, S'.hist.bh, S'.hist.hh, S'.hist.fr⟩ .non e
    · exact hq v B' H' _ ⟨hh.bb, hh.bh, hh.hh, hh.fr⟩ dv e
theorem ok_wpRN {x qual : Str} {st : Stmt} {f : Addr} {fd : FuncData} {N ps : List Str} {k : Nat} {Pre : FsD → List D → Prop} {Post : FsD → List D → List D → Prop} (F : Fun K x qual st f fd) (S : FnScope N ps (defScope st)) (hN : ps.length ≤ N.length) (len : ∀ fs ds, Pre fs ds → 1 + ds.length = ps.length)
    (hb : ∀ (cdv : Value), fd.code = cdv → ∀ (A : Around) (outer : List Env) (s : Shared) (H : Hp) (E : XK), Room k (A.deeper (PyProof.Rows.envOfC qual (defScope st) s.heap.objs.size f cdv)) →
      ∃ t, PSs (cxOf CX0 P w K mg base N qual (defScope st) f cdv A outer s H E).nox (defBody st) t ∧ ∀ fs ds, Pre fs ds → WP K t { nx := fun _ => False, rt := fun _ => False, rn := fun es => Post fs ds es } (startR N C fs ds)) : FnOk P w K mg base CX0 (k + 1) f fd ps (spRN K C Pre Post) := by
  refine F.okC S (fun vs H Q E h => ?_) (fun cdv hcv A outer s H vs Q E hr h => ?_)
  · obtain ⟨B, p, dx, ws, fs, us, ds, rfl, r, bh, hp, fw, hf, a, _⟩ := h
    rw [List.length_cons, a.len, ← len fs ds r]; omega
  · obtain ⟨t, ht, q⟩ := hb cdv hcv A outer s H E hr
    refine ⟨t, ht, ?_⟩
    obtain ⟨B, p, dx, ws, fs, us, ds, rfl, r, bh, hp, fw, hf, a, hq⟩ := h
    refine q fs ds r B H B H _ _ ⟨fun _ _ _ _ _ z => z.elim, fun _ _ _ _ _ _ z => z.elim, fun _ _ _ _ _ z => z.elim, fun _ _ _ _ _ z => z.elim, fun l vs B' H' ds' hh n0 nb hp da e => ?_, fun _ _ _ _ _ _ _ _ z => z.elim⟩ (start_sdR (by have := len fs ds r; omega) bh hp fw hf a)
    exact hq l vs B' H' ds' ⟨hh.bb, hh.bh, hh.hh, hh.fr⟩ n0 nb hp da e
end
end DX

namespace DX
open PySem L2
variable [TabEnv]
/-! ### objects that change -/
inductive FD where
  | s (d : D)
  | l (ds : List D)
  | ll (dss : List (List D))
  | la (bs : List Addr) (dss : List (List D))
  | m (es : List (D × D))
abbrev FM := List (Str × FD)
inductive LRep (K : PySem.W.Frag) (B H : Hp) : List Addr → List (List D) → Prop
  | nil : LRep K B H [] []
  | cons {b : Addr} {bs : List Addr} {vs : List V} {ds : List D} {dss : List (List D)} : H b = some (.lst vs) → DqAll K B vs ds → LRep K B H bs dss → LRep K B H (b :: bs) (ds :: dss)
def FRep (K : PySem.W.Frag) (B H : Hp) : FD → V → List Addr → Prop
  | .s d, v, as => as = [] ∧ Dq K B v d
  | .l ds, v, as => ∃ a vs, v = .ref a ∧ as = [a] ∧ H a = some (.lst vs) ∧ DqAll K B vs ds
  | .ll dss, v, as => ∃ a bs, v = .ref a ∧ as = a :: bs ∧ H a = some (.lst (bs.map V.ref)) ∧ LRep K B H bs dss
  | .la bs dss, v, as => ∃ a, v = .ref a ∧ as = a :: bs ∧ H a = some (.lst (bs.map V.ref)) ∧ LRep K B H bs dss
  | .m es, v, as => ∃ a kvs, v = .ref a ∧ as = [a] ∧ H a = some (.dK kvs) ∧ DqKv K B kvs es
inductive FsRep (K : PySem.W.Frag) (B H : Hp) : FM → List (Str × V) → List Addr → Prop
  | nil : FsRep K B H [] [] []
  | cons {f : Str} {x : FD} {v : V} {as : List Addr} {fs : FM} {ws : List (Str × V)} {F : List Addr} : FRep K B H x v as → FsRep K B H fs ws F → FsRep K B H ((f, x) :: fs) ((f, v) :: ws) (as ++ F)
def BigR (K : PySem.W.Frag) (C p : Addr) (fs : FM) (F : List Addr) (B H : Hp) (v : V) : Prop := v = .ref p ∧ ∃ dx ws G, H p = some (.ins C dx ws) ∧ FsRep K B H fs ws G ∧ F = p :: G ∧ F.Nodup
abbrev hold (K : PySem.W.Frag) (C p : Addr) (fs : FM) (F : List Addr) : SV := .big (BigR K C p fs F) F
def fget (f : Str) : FM → Option FD
  | [] => none
  | (g, x) :: r => if g = f then some x else fget f r
def putD (f : Str) (x : FD) : FM → FM
  | [] => [(f, x)]
  | (g, y) :: r => if g = f then (g, x) :: r else (g, y) :: putD f x r
section
variable {K : PySem.W.Frag} {B H B' H' : Hp} {f : Str} {x x' : FD} {v v' : V} {as as' bs F G : List Addr} {fs : FM} {ws : List (Str × V)} {ds : List D} {dss : List (List D)}
theorem dqall_lift (hd : ∀ w d, Dq K B w d → Dq K B' w d) : ∀ {ds : List D} {vs : List V}, DqAll K B vs ds → DqAll K B' vs ds
  | [], _, h => by cases h; exact .nil
  | d :: ds, _, h => by
    cases h with
    | cons a b => exact .cons (hd _ _ a) (dqall_lift hd b)
theorem dqkv_lift (hd : ∀ w d, Dq K B w d → Dq K B' w d) : ∀ {ds : List (D × D)} {vs : List (Key × V)}, DqKv K B vs ds → DqKv K B' vs ds
  | [], _, h => by cases h; exact .nil
  | d :: ds, _, h => by
    cases h with
    | cons a b c => exact .cons (hd _ _ a) (hd _ _ b) (dqkv_lift hd c)
theorem LRep.step (hd : ∀ w d, Dq K B w d → Dq K B' w d) (h : LRep K B H bs dss) : (∀ a ∈ bs, ∀ o, H a = some o → NT o → H' a = some o) → LRep K B' H' bs dss := by
  induction h with
  | nil => exact fun _ => .nil
  | cons e q _ ih => exact fun hh => .cons (hh _ (List.mem_cons_self ..) _ e (fun _ z => nomatch z)) (dqall_lift hd q) (ih fun a ma => hh a (List.mem_cons_of_mem _ ma))
theorem FRep.step (hd : ∀ w d, Dq K B w d → Dq K B' w d) (h : FRep K B H x v as) (hh : ∀ a ∈ as, ∀ o, H a = some o → NT o → H' a = some o) : FRep K B' H' x v as := by
  cases x with
  | s d => exact ⟨h.1, hd _ _ h.2⟩
  | l ds =>
    obtain ⟨a, vs, rfl, rfl, e, q⟩ := h
    exact ⟨a, vs, rfl, rfl, hh a (List.mem_cons_self ..) _ e (fun _ z => nomatch z), dqall_lift hd q⟩
  | ll dss =>
    obtain ⟨a, bs, rfl, rfl, e, q⟩ := h
    exact ⟨a, bs, rfl, rfl, hh a (List.mem_cons_self ..) _ e (fun _ z => nomatch z), q.step hd fun b mb => hh b (List.mem_cons_of_mem _ mb)⟩
  | la bs dss =>
    obtain ⟨a, rfl, rfl, e, q⟩ := h
    exact ⟨a, rfl, rfl, hh a (List.mem_cons_self ..) _ e (fun _ z => nomatch z), q.step hd fun b mb => hh b (List.mem_cons_of_mem _ mb)⟩
  | m es =>
    obtain ⟨a, vs, rfl, rfl, e, q⟩ := h
    exact ⟨a, vs, rfl, rfl, hh a (List.mem_cons_self ..) _ e (fun _ z => nomatch z), dqkv_lift hd q⟩
theorem FsRep.step (hd : ∀ w d, Dq K B w d → Dq K B' w d) (h : FsRep K B H fs ws F) : (∀ a ∈ F, ∀ o, H a = some o → NT o → H' a = some o) → FsRep K B' H' fs ws F := by
  induction h with
  | nil => exact fun _ => .nil
  | cons q _ ih => exact fun hh => .cons (q.step hd fun a ma => hh a (List.mem_append_left _ ma)) (ih fun a ma => hh a (List.mem_append_right _ ma))
theorem LRep.some (h : LRep K B H bs dss) : ∀ a ∈ bs, ∃ vs, H a = some (.lst vs) := by
  induction h with
  | nil => exact fun a ma => by cases ma
  | cons e q _ ih =>
    intro a ma
    rcases List.mem_cons.mp ma with rfl | ma
    · exact ⟨_, e⟩
    · exact ih a ma
theorem FRep.some (h : FRep K B H x v as) : ∀ a ∈ as, H a ≠ none := by
  intro a ma
  cases x with
  | s d => rw [h.1] at ma; cases ma
  | l ds =>
    obtain ⟨b, vs, rfl, rfl, e, q⟩ := h
    rw [List.mem_singleton.mp ma, e]; exact fun z => nomatch z
  | ll dss =>
    obtain ⟨b, bs, rfl, rfl, e, q⟩ := h
    rcases List.mem_cons.mp ma with rfl | ma
    · rw [e]; exact fun z => nomatch z
    · obtain ⟨vs, e⟩ := q.some a ma
      rw [e]; exact fun z => nomatch z
  | la bs dss =>
    obtain ⟨b, rfl, rfl, e, q⟩ := h
    rcases List.mem_cons.mp ma with rfl | ma
    · rw [e]; exact fun z => nomatch z
    · obtain ⟨vs, e⟩ := q.some a ma
      rw [e]; exact fun z => nomatch z
  | m es =>
    obtain ⟨b, vs, rfl, rfl, e, q⟩ := h
    rw [List.mem_singleton.mp ma, e]; exact fun z => nomatch z
theorem FsRep.some (h : FsRep K B H fs ws F) : ∀ a ∈ F, H a ≠ none := by
  induction h with
  | nil => exact fun a ma => by cases ma
  | cons q _ ih => exact fun a ma => (List.mem_append.mp ma).elim (q.some a) (ih a)
theorem BigR.some {C p : Addr} (h : BigR K C p fs F B H v) : ∀ a ∈ F, H a ≠ none := by
  obtain ⟨rfl, dx, ws, G, hp, r, rfl, nd⟩ := h
  intro a ma
  rcases List.mem_cons.mp ma with rfl | ma
  · rw [hp]; exact fun z => nomatch z
  · exact r.some a ma
theorem FRep.plain (h : FRep K B H x v as) : ∀ a ∈ as, ∃ o, H a = Option.some o ∧ NT o ∧ ∀ φ, o ≠ .ext φ := by
  intro a ma
  cases x with
  | s d => rw [h.1] at ma; cases ma
  | l ds =>
    obtain ⟨b, vs, rfl, rfl, e, q⟩ := h
    rw [List.mem_singleton.mp ma]
    exact ⟨_, e, (fun _ z => nomatch z), (fun _ z => nomatch z)⟩
  | ll dss =>
    obtain ⟨b, bs, rfl, rfl, e, q⟩ := h
    rcases List.mem_cons.mp ma with rfl | ma
    · exact ⟨_, e, (fun _ z => nomatch z), (fun _ z => nomatch z)⟩
    · obtain ⟨vs, e⟩ := q.some a ma
      exact ⟨_, e, (fun _ z => nomatch z), (fun _ z => nomatch z)⟩
  | la bs dss =>
    obtain ⟨b, rfl, rfl, e, q⟩ := h
    rcases List.mem_cons.mp ma with rfl | ma
    · exact ⟨_, e, (fun _ z => nomatch z), (fun _ z => nomatch z)⟩
    · obtain ⟨vs, e⟩ := q.some a ma
      exact ⟨_, e, (fun _ z => nomatch z), (fun _ z => nomatch z)⟩
  | m es =>
    obtain ⟨b, vs, rfl, rfl, e, q⟩ := h
    rw [List.mem_singleton.mp ma]
    exact ⟨_, e, (fun _ z => nomatch z), (fun _ z => nomatch z)⟩
theorem FsRep.plain (h : FsRep K B H fs ws F) : ∀ a ∈ F, ∃ o, H a = Option.some o ∧ NT o ∧ ∀ φ, o ≠ .ext φ := by
  induction h with
  | nil => exact fun a ma => by cases ma
  | cons q _ ih => exact fun a ma => (List.mem_append.mp ma).elim (q.plain a) (ih a)
theorem BigR.plain {C p : Addr} (h : BigR K C p fs F B H v) : ∀ a ∈ F, ∃ o, H a = Option.some o ∧ NT o ∧ ∀ φ, o ≠ .ext φ := by
  obtain ⟨rfl, dx, ws, G, hp, r, rfl, nd⟩ := h
  intro a ma
  rcases List.mem_cons.mp ma with rfl | ma
  · exact ⟨_, hp, (fun _ z => nomatch z), (fun _ z => nomatch z)⟩
  · exact r.plain a ma
theorem BigR.stab {C p : Addr} : Stab K (BigR K C p fs F) F := fun B H B' H' v h hd hh => by
  obtain ⟨rfl, dx, ws, G, hp, r, rfl, nd⟩ := h
  exact ⟨rfl, dx, ws, G, hh p (List.mem_cons_self ..) _ hp (fun _ z => nomatch z), r.step hd fun a ma => hh a (List.mem_cons_of_mem _ ma), rfl, nd⟩
theorem lookup_hit {g : Str} {w : V} (e : g = f) : List.lookup f ((g, w) :: ws) = Option.some w := by
  subst e
  simp [List.lookup]
theorem lookup_miss {g : Str} {w : V} (e : ¬ g = f) : List.lookup f ((g, w) :: ws) = List.lookup f ws := by
  have hb : (f == g) = false := beq_eq_false_iff_ne.mpr fun z => e z.symm
  simp only [List.lookup, hb]
theorem FsRep.get (h : FsRep K B H fs ws F) : fget f fs = Option.some x → F.Nodup → ∃ v as, ws.lookup f = Option.some v ∧ FRep K B H x v as ∧ (∀ a ∈ as, a ∈ F) ∧ as.Nodup ∧
    ∀ (x' : FD) (B' H' : Hp), (∀ w d, Dq K B w d → Dq K B' w d) → (∀ a ∈ F, a ∉ as → ∀ o, H a = Option.some o → NT o → H' a = Option.some o) → FRep K B' H' x' v as → FsRep K B' H' (putD f x' fs) ws F := by
  induction h with
  | nil => exact fun e => by cases e
  | @cons g y u as0 fs ws G r t ih =>
    intro e nd
    obtain ⟨n1, n2, n3⟩ := List.nodup_append.mp nd
    unfold fget at e
    by_cases hg : g = f
    · rw [if_pos hg] at e
      cases e
      refine ⟨u, as0, lookup_hit hg, r, fun a ma => List.mem_append_left _ ma, n1, fun x' B' H' hd hh r' => ?_⟩
      unfold putD
      rw [if_pos hg]
      exact .cons r' (t.step hd fun a ma => hh a (List.mem_append_right _ ma) fun z => n3 a z a ma rfl)
    · rw [if_neg hg] at e
      obtain ⟨v, as, hl, hr, hs, hn, hput⟩ := ih e n2
      refine ⟨v, as, (lookup_miss hg).trans hl, hr, fun a ma => List.mem_append_right _ (hs a ma), hn, fun x' B' H' hd hh r' => ?_⟩
      unfold putD
      rw [if_neg hg]
      exact .cons (r.step hd fun a ma => hh a (List.mem_append_left _ ma) fun z => n3 a ma a (hs a z) rfl) (hput x' B' H' hd (fun a ma mz => hh a (List.mem_append_right _ ma) mz) r')
theorem FsRep.store (r : FRep K B H x' v' as') (h : FsRep K B H fs ws F) : ∃ F', FsRep K B H (putD f x' fs) (putF f v' ws) F' ∧ (∀ a ∈ F', a ∈ F ∨ a ∈ as') ∧ (F.Nodup → as'.Nodup → (∀ a ∈ as', a ∉ F) → F'.Nodup) := by
  induction h with
  | nil =>
    exact ⟨as' ++ [], .cons r .nil, fun a ma => .inr (by simpa using ma), fun _ h _ => by simpa using h⟩
  | @cons g y u as0 fs ws G r0 t ih =>
    unfold putD putF
    by_cases hg : g = f
    · rw [if_pos hg, if_pos hg]
      refine ⟨as' ++ G, .cons r t, fun a ma => ?_, fun nd n' ne => ?_⟩
      · rcases List.mem_append.mp ma with z | z
        · exact .inr z
        · exact .inl (List.mem_append_right _ z)
      · obtain ⟨n1, n2, n3⟩ := List.nodup_append.mp nd
        exact List.nodup_append.mpr ⟨n', n2, fun a ma b mb e => ne a ma (List.mem_append_right _ (e ▸ mb))⟩
    · rw [if_neg hg, if_neg hg]
      obtain ⟨F', h1, h2, h3⟩ := ih
      refine ⟨as0 ++ F', .cons r0 h1, fun a ma => ?_, fun nd n' ne => ?_⟩
      · rcases List.mem_append.mp ma with z | z
        · exact .inl (List.mem_append_left _ z)
        · rcases h2 a z with z | z
          · exact .inl (List.mem_append_right _ z)
          · exact .inr z
      · obtain ⟨n1, n2, n3⟩ := List.nodup_append.mp nd
        refine List.nodup_append.mpr ⟨n1, h3 n2 n' fun a ma z => ne a ma (List.mem_append_right _ z), fun a ma b mb e => ?_⟩
        rcases h2 b mb with z | z
        · exact n3 a ma b z e
        · exact ne b z (List.mem_append_left _ (e ▸ ma))
theorem FsRep.len (h : FsRep K B H fs ws F) : ws.length = fs.length := by
  induction h with
  | nil => rfl
  | cons _ _ ih => rw [List.length_cons, List.length_cons, ih]
theorem FsRep.none (h : FsRep K B H fs ws F) : fget f fs = Option.none → ws.lookup f = Option.none := by
  induction h with
  | nil => exact fun _ => rfl
  | @cons g y u as0 fs ws G r t ih =>
    intro e
    unfold fget at e
    by_cases hg : g = f
    · rw [if_pos hg] at e; cases e
    · rw [if_neg hg] at e
      exact (lookup_miss hg).trans (ih e)
theorem LRep.len (h : LRep K B H bs dss) : bs.length = dss.length := by
  induction h with
  | nil => rfl
  | cons _ _ _ ih => rw [List.length_cons, List.length_cons, ih]
theorem LRep.get (h : LRep K B H bs dss) : ∀ {k : Nat} {ds : List D}, bs.Nodup → dss[k]? = Option.some ds → ∃ b vs, bs[k]? = Option.some b ∧ H b = Option.some (.lst vs) ∧ DqAll K B vs ds ∧
    ∀ vs' ds', DqAll K B vs' ds' → LRep K B (upd H b (.lst vs')) bs (dss.set k ds') := by
  induction h with
  | nil => intro k ds _ e; cases k <;> cases e
  | @cons b bs vs ds0 dss e q t ih =>
    intro k ds nd ek
    obtain ⟨n1, n2⟩ := List.nodup_cons.mp nd
    cases k with
    | zero =>
      cases ek
      exact ⟨b, vs, rfl, e, q, fun vs' ds' q' => .cons upd_same q' (t.step (fun _ _ z => z) fun a ma o e _ => (upd_ne (fun z => n1 (z ▸ ma) : a ≠ b)).trans e)⟩
    | succ k =>
      obtain ⟨b', vs', h1, h2, h3, h4⟩ := ih n2 (k := k) ek
      refine ⟨b', vs', h1, h2, h3, fun us es q' => .cons ?_ q (h4 us es q')⟩
      have hm := List.mem_of_getElem? h1
      rw [upd_ne (fun z => n1 (z ▸ hm) : b ≠ b')]; exact e
end
/-- a step that leaves what is not at F -/
structure Stm (F : List Addr) (B H B' H' : Hp) : Prop where
  bb : Sam B B'
  bh : Bh B' H'
  hh : ∀ a o, H a = some o → a ∉ F → ∃ o', H' a = some o' ∧ (NT o → o' = o)
  fr : ∀ a, H a ≠ none → a ∉ F → B a = none → B' a = none
theorem Stm.at {F : List Addr} {B H B' H' : Hp} (s : Stm F B H B' H') {a : Addr} {o : HO} (e : H a = some o) (n : a ∉ F) (t : NT o := by exact fun _ z => nomatch z) : H' a = some o := by
  obtain ⟨o', h1, h2⟩ := s.hh a o e n
  rw [h1, h2 t]
theorem Stm.stays {F : List Addr} {B H B' H' : Hp} (s : Stm F B H B' H') {a : Addr} (e : H a ≠ none) (n : a ∉ F) : H' a ≠ none := by
  cases q : H a with
  | none => exact absurd q e
  | some o =>
    obtain ⟨o', h1, h2⟩ := s.hh a o q n
    rw [h1]; exact fun z => nomatch z
section
variable {K : PySem.W.Frag} {B0 H0 B H B' H' : Hp} {σ : L2.St} {δ δ' : List SV} {ta tb te : TE} {c : TT} {t u : TS} {d x y : D} {ds es : List D} {E : EndsD} {C p : Addr} {fs fs' : FM} {F F' : List Addr} {i : Nat} {f m : Str}
theorem Sd.bigTo {R R' : Hp → Hp → V → Prop} (S : Sd K B0 H0 B H σ δ) (e : δ[i]? = some (.big R F)) (s : Stm F B H B' H')
    (hF : ∀ a ∈ F', H' a ≠ none ∧ B' a = none ∧ H0 a = none ∧ (a ∈ F ∨ ∀ j t q, i ≠ j → δ[j]? = some t → σ[j]? = some q → a ∉ foot t q)) (hR : ∀ v, σ[i]? = some (some v) → R' B' H' v) (st : Stab K R' F') : Sd K B0 H0 B' H' σ (δ.set i (.big R' F')) := by
  obtain ⟨oi, ei, vi, ev, ri, sti, hai⟩ := S.ok i _ e
  have out : ∀ a, H0 a ≠ none → a ∉ F := fun a q z => q (hai a z).2.2
  have away : ∀ j t q, i ≠ j → δ[j]? = some t → σ[j]? = some q → ∀ a ∈ foot t q, a ∉ F := fun j t q n e1 e2 a ma => S.apart j i _ _ _ _ (Ne.symm n) e1 e e2 ei a ma
  refine ⟨⟨S.hist.bb.trans s.bb, s.bh, fun a o ea => by
      obtain ⟨o1, h1, h2⟩ := S.hist.hh _ _ ea
      obtain ⟨o2, h3, h4⟩ := s.hh a o1 h1 (out a (by rw [ea]; exact fun z => nomatch z))
      exact ⟨o2, h3, fun z => by have e1 := h2 z; subst e1; exact h4 z⟩, fun a q z => s.fr a (ne_none_of S.hist.hh q) (out a q) (S.hist.fr a q z)⟩,
    by rw [List.length_set]; exact S.len, fun j t ej => ?_, fun j k t u o q n e1 e2 e3 e4 a ma mb => ?_⟩
  · rcases get_set ej with ⟨rfl, rfl⟩ | ⟨hne, ej⟩
    · exact ⟨_, ei, vi, ev, hR vi (by rw [ei, ev]), st, fun a ma => ⟨(hF a ma).1, (hF a ma).2.1, (hF a ma).2.2.1⟩⟩
    · obtain ⟨o, eo, ok⟩ := S.ok j t ej
      have aw := away j t o hne ej eo
      refine ⟨o, eo, ?_⟩
      cases t with
      | no => exact True.intro
      | val d => obtain ⟨v, e1, q⟩ := ok; exact ⟨v, e1, Dq.up s.bb _ _ q⟩
      | ob C fs =>
        obtain ⟨pp, dx, ws, rfl, hp, hn, hf⟩ := ok
        exact ⟨pp, dx, ws, rfl, s.at hp (aw pp (List.mem_singleton.mpr rfl)), hn, hf.up s.bb⟩
      | own xo =>
        obtain ⟨pp, vs, rfl, hp, bp, h0, q⟩ := ok
        have hpF := aw pp (List.mem_singleton.mpr rfl)
        exact ⟨pp, vs, rfl, s.at hp hpF (rep_nt q), s.fr pp (by rw [hp]; exact fun z => nomatch z) hpF bp, h0, q.up s.bb⟩
      | big R2 F2 =>
        obtain ⟨v, rfl, r, st2, ha⟩ := ok
        refine ⟨v, rfl, st2 B H B' H' v r (fun w d => Dq.up s.bb d w) (fun a ma o eo nt => s.at eo (aw a ma) nt), st2, fun a ma => ?_⟩
        obtain ⟨h1, h2, h3⟩ := ha a ma
        exact ⟨s.stays h1 (aw a ma), s.fr a h1 (aw a ma) h2, h3⟩
  · rcases get_set e1 with ⟨rfl, rfl⟩ | ⟨z, b⟩
    · rcases get_set e2 with ⟨z', _⟩ | ⟨z', b'⟩
      · exact n z'
      · rcases (hF a ma).2.2.2 with h | h
        · exact away k u q z' b' e4 a mb h
        · exact h k u q z' b' e4 mb
    · rcases get_set e2 with ⟨rfl, rfl⟩ | ⟨z', b'⟩
      · rcases (hF a mb).2.2.2 with h | h
        · exact away j t o z b e3 a ma h
        · exact h j t o z b e3 ma
      · exact S.apart j k t u o q n b b' e3 e4 a ma mb
theorem Sd.slotBig (S : Sd K B0 H0 B H σ δ) (e : δ[i]? = some (hold K C p fs F)) : ∃ dx ws G, σ[i]? = some (some (.ref p)) ∧ H p = some (.ins C dx ws) ∧ FsRep K B H fs ws G ∧ F = p :: G ∧ F.Nodup ∧ ∀ a ∈ F, H a ≠ none ∧ B a = none ∧ H0 a = none := by
  obtain ⟨o, eo, v, rfl, ⟨rfl, dx, ws, G, hp, r, rfl, nd⟩, st, ha⟩ := S.ok i _ e
  exact ⟨dx, ws, G, eo, hp, r, rfl, nd, ha⟩
/-- one address of it is written -/
theorem Sd.bigUpd {a : Addr} {u : HO} (S : Sd K B0 H0 B H σ δ) (e : δ[i]? = some (hold K C p fs F)) (ha : a ∈ F) (hu : NT u) (hR : BigR K C p fs' F B (upd H a u) (.ref p)) : Sd K B0 H0 B (upd H a u) σ (δ.set i (hold K C p fs' F)) := by
  obtain ⟨dx, ws, G, a1, hp, r, eF, nd, hF⟩ := S.slotBig e
  have hb : B a = none := (hF a ha).2.1
  have pl := BigR.plain (v := .ref p) ⟨rfl, dx, ws, G, hp, r, eF, nd⟩ a ha
  refine S.bigTo e ⟨Sam.refl _, ⟨fun b o eb => ?_, S.hist.bh.tb.upd (.inr pl) hu⟩, fun b o eb nb => ?_, fun b _ _ z => z⟩ (fun b mb => ⟨?_, (hF b mb).2.1, (hF b mb).2.2, .inl mb⟩) (fun v ev => ?_) BigR.stab
  · have : b ≠ a := fun z => by subst z; rw [hb] at eb; cases eb
    rw [upd_ne this]; exact S.hist.bh.sm _ _ eb
  · have : b ≠ a := fun z => nb (z ▸ ha)
    exact ⟨o, (upd_ne this).trans eb, fun _ => rfl⟩
  · by_cases z : b = a
    · rw [z, upd_same]; exact fun z => nomatch z
    · rw [upd_ne z]; exact (hF b mb).1
  · rw [a1] at ev; cases ev; exact hR
theorem Sd.bigL (S : Sd K B0 H0 B H σ δ) (e : δ[i]? = some (hold K C p fs F)) (l : fget f fs = some (.l ds)) : ∃ dx ws a vs, σ[i]? = some (some (.ref p)) ∧ H p = some (.ins C dx ws) ∧ ws.lookup f = some (.ref a) ∧ H a = some (.lst vs) ∧ DqAll K B vs ds ∧
    ∀ vs' ds', DqAll K B vs' ds' → Sd K B0 H0 B (upd H a (.lst vs')) σ (δ.set i (hold K C p (putD f (.l ds') fs) F)) := by
  obtain ⟨dx, ws, G, a1, hp, r, rfl, nd, hF⟩ := S.slotBig e
  obtain ⟨n1, n2⟩ := List.nodup_cons.mp nd
  obtain ⟨v, as, hl, ⟨a, vs, rfl, rfl, ha, q⟩, hs, hn, hput⟩ := r.get l n2
  have hm := hs a (List.mem_singleton.mpr rfl)
  refine ⟨dx, ws, a, vs, a1, hp, hl, ha, q, fun vs' ds' q' => S.bigUpd e (List.mem_cons_of_mem _ hm) (fun _ z => nomatch z) ⟨rfl, dx, ws, G, ?_, ?_, rfl, nd⟩⟩
  · rw [upd_ne (fun z => n1 (z ▸ hm) : p ≠ a)]; exact hp
  · exact hput (.l ds') B _ (fun _ _ z => z) (fun b mb nb o eo _ => (upd_ne (fun z => nb (List.mem_singleton.mpr z) : b ≠ a)).trans eo) ⟨a, vs', rfl, rfl, upd_same, q'⟩
theorem Sd.bigLL {k : Nat} {dss : List (List D)} (S : Sd K B0 H0 B H σ δ) (e : δ[i]? = some (hold K C p fs F)) (l : fget f fs = some (.ll dss)) (hk : dss[k]? = some ds) :
    ∃ (dx : Addr) (ws : List (Str × V)) (a : Addr) (bs : List Addr) (b : Addr) (vs : List V), σ[i]? = some (some (.ref p)) ∧ H p = some (.ins C dx ws) ∧ ws.lookup f = some (.ref a) ∧ H a = some (.lst (bs.map V.ref)) ∧ bs.length = dss.length ∧ bs[k]? = some b ∧ H b = some (.lst vs) ∧ DqAll K B vs ds ∧
    ∀ vs' ds', DqAll K B vs' ds' → Sd K B0 H0 B (upd H b (.lst vs')) σ (δ.set i (hold K C p (putD f (.ll (dss.set k ds')) fs) F)) := by
  obtain ⟨dx, ws, G, a1, hp, r, rfl, nd, hF⟩ := S.slotBig e
  obtain ⟨n1, n2⟩ := List.nodup_cons.mp nd
  obtain ⟨v, as, hl, ⟨a, bs, rfl, rfl, ha, q⟩, hs, hn, hput⟩ := r.get l n2
  obtain ⟨m1, m2⟩ := List.nodup_cons.mp hn
  obtain ⟨b, vs, hb, hv, qv, hset⟩ := q.get m2 hk
  have mb := List.mem_of_getElem? hb
  have hm := hs b (List.mem_cons_of_mem _ mb)
  refine ⟨dx, ws, a, bs, b, vs, a1, hp, hl, ha, q.len, hb, hv, qv, fun vs' ds' q' => S.bigUpd e (List.mem_cons_of_mem _ hm) (fun _ z => nomatch z) ⟨rfl, dx, ws, G, ?_, ?_, rfl, nd⟩⟩
  · rw [upd_ne (fun z => n1 (z ▸ hm) : p ≠ b)]; exact hp
  · refine hput (.ll (dss.set k ds')) B _ (fun _ _ z => z) (fun c mc nc o eo _ => (upd_ne (fun z => nc (List.mem_cons_of_mem _ (z ▸ mb)) : c ≠ b)).trans eo) ⟨a, bs, rfl, rfl, ?_, hset vs' ds' q'⟩
    rw [upd_ne (fun z => m1 (z ▸ mb) : a ≠ b)]; exact ha
/-! ### reading it -/
theorem ed_bigFld (e : δ[i]? = some (hold K C p fs F)) (l : fget f fs = some (.s d)) (c : Cls K C) (n : NoAttr K C f) : ED K (tFld K (tVar i) f) δ d := fun B0 H0 B H σ Q S q => by
  obtain ⟨dx, ws, G, a1, hp, r, rfl, nd, hF⟩ := S.slotBig e
  obtain ⟨v, as, hl, ⟨_, dv⟩, _⟩ := r.get l (List.nodup_cons.mp nd).2
  exact ⟨_, a1, p, C, dx, ws, v, rfl, hp, c, n, hl, q v B H (.refl S.hist.bh) dv⟩
theorem ed_bigIx {k : Int} (e : δ[i]? = some (hold K C p fs F)) (l : fget f fs = some (.l ds)) (c : Cls K C) (n : NoAttr K C f) (hb : ED K tb δ (.int k)) (it : atI ds k = some d) : ED K (tOp (rIx K) (tFld K (tVar i) f) tb) δ d := fun B0 H0 B H σ Q S q => by
  obtain ⟨dx, ws, a, vs, a1, hp, hl, ha, dv, _⟩ := S.bigL e l
  refine ⟨_, a1, p, C, dx, ws, _, rfl, hp, c, n, hl, hb B0 H0 B H σ _ S fun w B2 H2 s2 y => ?_⟩
  cases Dq.int_inv y
  obtain ⟨dx2, ws2, a2, vs2, b1, hp2, hl2, ha2, dv2, _⟩ := (S.step s2).bigL e l
  rw [s2.hh.at hp] at hp2; cases hp2
  rw [hl] at hl2; cases hl2
  obtain ⟨v, e1, e2⟩ := atI_dp dv2 it
  exact .inl ⟨_, _, k, v, rfl, rfl, .inl (.inl ha2), e1, q v B2 H2 s2 e2⟩
/-! ### writing it -/
/-- o.f[k] = e -/
theorem wp_bigSet {k : Int} {j : Nat} (e : δ[i]? = some (hold K C p fs F)) (l : fget f fs = some (.l ds)) (c : Cls K C) (n : NoAttr K C f) (h : ED K te δ d) (hb : ED K tb δ (.int k)) (hj : ixN ds.length k = some j) (q : E.nx (δ.set i (hold K C p (putD f (.l (ds.set j d)) fs) F))) :
    WP K (tAsg te (gSub (tFld K (tVar i) f) tb L2.rSetL)) E δ := fun B0 H0 B H σ D L S =>
  h B0 H0 B H σ _ S fun v B1 H1 s1 dv => by
    have S1 := S.step s1
    obtain ⟨dx, ws, a, vs, a1, hp, hl, ha, dvs, _⟩ := S1.bigL e l
    refine ⟨_, a1, p, C, dx, ws, _, rfl, hp, c, n, hl, hb B0 H0 B1 H1 σ _ S1 fun w B2 H2 s2 y => ?_⟩
    cases Dq.int_inv y
    obtain ⟨dx2, ws2, a2, vs2, b1, hp2, hl2, ha2, dv2, hput⟩ := (S1.step s2).bigL e l
    rw [s2.hh.at hp] at hp2; cases hp2
    rw [hl] at hl2; cases hl2
    exact ⟨a, vs2, k, j, rfl, rfl, ha2, by rw [dv2.len]; exact hj, L.nx _ _ B2 _ (hput _ _ (dv2.set (Dq.up s2.bb _ _ dv) j)) q⟩
/-- o.f[k] op= e, ints -/
theorem wp_bigAug {k a0 b0 : Int} {j : Nat} {g : Int → Int → Int} (e : δ[i]? = some (hold K C p fs F)) (l : fget f fs = some (.l ds)) (c : Cls K C) (n : NoAttr K C f) (hb : ED K tb δ (.int k)) (hj : ixN ds.length k = some j) (hd : ds[j]? = some (.int a0)) (h : ED K te δ (.int b0))
    (q : E.nx (δ.set i (hold K C p (putD f (.l (ds.set j (.int (g a0 b0)))) fs) F))) : WP K (tAugS (tFld K (tVar i) f) tb te (rIxL K) (ipI g) L2.rSetL) E δ := fun B0 H0 B H σ D L S => by
  obtain ⟨dx, ws, a, vs, a1, hp, hl, ha, dvs, _⟩ := S.bigL e l
  refine ⟨_, a1, p, C, dx, ws, _, rfl, hp, c, n, hl, hb B0 H0 B H σ _ S fun w B2 H2 s2 y => ?_⟩
  cases Dq.int_inv y
  have S2 := S.step s2
  obtain ⟨dx2, ws2, a2, vs2, b1, hp2, hl2, ha2, dv2, _⟩ := S2.bigL e l
  rw [s2.hh.at hp] at hp2; cases hp2
  rw [hl] at hl2; cases hl2
  have it : atI ds k = some (.int a0) := by
    unfold atI
    rw [hj]; exact hd
  obtain ⟨v, e1, e2⟩ := atI_dp dv2 it
  cases Dq.int_inv e2
  refine ⟨_, _, k, _, rfl, rfl, .inl (.inl ha2), e1, h B0 H0 B2 H2 σ _ S2 fun w B3 H3 s3 y => ?_⟩
  cases Dq.int_inv y
  obtain ⟨dx3, ws3, a3, vs3, c1, hp3, hl3, ha3, dv3, hput⟩ := (S2.step s3).bigL e l
  rw [s3.hh.at (s2.hh.at hp)] at hp3; cases hp3
  rw [hl] at hl3; cases hl3
  exact ⟨a0, b0, rfl, rfl, a, vs3, k, j, rfl, rfl, ha3, by rw [dv3.len]; exact hj, L.nx _ _ B3 _ (hput _ _ (dv3.set (.int _) j)) q⟩
/-- the inner list -/
theorem bigIn {k : Int} {j : Nat} {dss : List (List D)} {Q : VK} (e : δ[i]? = some (hold K C p fs F)) (l : fget f fs = some (.ll dss)) (c : Cls K C) (n : NoAttr K C f) (hb : ED K tb δ (.int k)) (hj : ixN dss.length k = some j) (hk : dss[j]? = some ds) (S : Sd K B0 H0 B H σ δ)
    (q : ∀ b B' H', Stp B H B' H' → (∃ vs, H' b = some (.lst vs)) → (∀ B2 H2, Stp B' H' B2 H2 → ∃ vs, H2 b = some (.lst vs) ∧ DqAll K B2 vs ds ∧ ∀ vs' ds', DqAll K B2 vs' ds' → Sd K B0 H0 B2 (upd H2 b (.lst vs')) σ (δ.set i (hold K C p (putD f (.ll (dss.set j ds')) fs) F))) → Q (.ref b) H') :
    (tOp (rIx K) (tFld K (tVar i) f) tb) σ H Q := by
  obtain ⟨dx, ws, a, bs, b, vs, a1, hp, hl, ha, hbl, hbj, hbv, dvs, _⟩ := S.bigLL e l hk
  refine ⟨_, a1, p, C, dx, ws, _, rfl, hp, c, n, hl, hb B0 H0 B H σ _ S fun w B2 H2 s2 y => ?_⟩
  cases Dq.int_inv y
  have S2 := S.step s2
  have ha2 := s2.hh.at ha
  have it : atI (bs.map V.ref) k = some (.ref b) := by
    unfold atI
    rw [List.length_map, hbl, hj]
    show (bs.map V.ref)[j]? = _
    rw [List.getElem?_map, hbj]; rfl
  refine .inl ⟨_, _, k, _, rfl, rfl, .inl (.inl ha2), it, q b B2 H2 s2 ⟨vs, s2.hh.at hbv⟩ fun B3 H3 s3 => ?_⟩
  obtain ⟨dx3, ws3, a3, bs3, b3, vs3, c1, hp3, hl3, ha3, hbl3, hbj3, hbv3, dvs3, hput⟩ := (S2.step s3).bigLL e l hk
  rw [s3.hh.at (s2.hh.at hp)] at hp3; cases hp3
  rw [hl] at hl3; cases hl3
  rw [s3.hh.at ha2] at ha3
  have ebs : bs3 = bs := by
    have : bs.map V.ref = bs3.map V.ref := by injection ha3 with z; injection z
    exact ((List.map_inj_right (fun x y z => by injection z)).mp this).symm
  subst ebs
  rw [hbj] at hbj3; cases hbj3
  exact ⟨vs3, hbv3, dvs3, hput⟩
/-- o.f[k].append(e) -/
theorem wp_bigApp {k : Int} {j : Nat} {dss : List (List D)} (e : δ[i]? = some (hold K C p fs F)) (l : fget f fs = some (.ll dss)) (c : Cls K C) (n : NoAttr K C f) (hb : ED K tb δ (.int k)) (hj : ixN dss.length k = some j) (hk : dss[j]? = some ds) (h : ED K te δ d) (hz : ds.length < sizeLine)
    (q : E.nx (δ.set i (hold K C p (putD f (.ll (dss.set j (ds ++ [d]))) fs) F))) : WP K (tDrop (tBM K "list" rAppend (tOp (rIx K) (tFld K (tVar i) f) tb) (tCons te tNil))) E δ := fun B0 H0 B H σ D L S =>
  bigIn e l c n hb hj hk S fun b B1 H1 s1 ⟨vs, hv⟩ hput => ⟨.inl ⟨rfl, vs, .inl (.inl hv)⟩, h B0 H0 B1 H1 σ _ (S.step s1) fun v B2 H2 s2 dv => by
    obtain ⟨vs2, h1, h2, h3⟩ := hput B2 H2 s2
    exact ⟨b, vs2, v, rfl, rfl, h1, by rw [h2.len]; exact hz, L.nx _ _ B2 _ (h3 _ _ (h2.app (.cons dv .nil))) q⟩⟩
/-- o.f[k].remove(e), ints -/
theorem wp_bigRem {k r0 : Int} {j z : Nat} {dss : List (List D)} {ns : List Int} (e : δ[i]? = some (hold K C p fs F)) (l : fget f fs = some (.ll dss)) (c : Cls K C) (n : NoAttr K C f) (hb : ED K tb δ (.int k)) (hj : ixN dss.length k = some j) (hk : dss[j]? = some (ns.map PyData.int)) (h : ED K te δ (.int r0))
    (hz : ns[z]? = some r0) (hno : ∀ m : Nat, m < z → ns[m]? ≠ some r0) (q : E.nx (δ.set i (hold K C p (putD f (.ll (dss.set j ((ns.eraseIdx z).map PyData.int))) fs) F))) : WP K (tDrop (tBM K "list" rRemI (tOp (rIx K) (tFld K (tVar i) f) tb) (tCons te tNil))) E δ := fun B0 H0 B H σ D L S =>
  bigIn e l c n hb hj hk S fun b B1 H1 s1 ⟨vs, hv⟩ hput => ⟨.inl ⟨rfl, vs, .inl (.inl hv)⟩, h B0 H0 B1 H1 σ _ (S.step s1) fun v B2 H2 s2 dv => by
    cases Dq.int_inv dv
    obtain ⟨vs2, h1, h2, h3⟩ := hput B2 H2 s2
    cases h2.ints
    exact ⟨b, ns, r0, z, rfl, rfl, h1, hz, hno, L.nx _ _ B2 _ (h3 _ _ DqAll.ofInts) q⟩⟩
end
end DX

namespace DX
open PySem L2
variable [TabEnv]
/-! ### expressions that change what is there -/
def EX (K : PySem.W.Frag) (te : TE) (δ : List SV) (P : D → List SV → Prop) : Prop := ∀ (B0 H0 B H : Hp) (σ : L2.St) (Q : VK), Sd K B0 H0 B H σ δ → (∀ v B' H' d δ', Sd K B0 H0 B' H' σ δ' → Dq K B' v d → P d δ' → Q v H') → te σ H Q
def ETX (K : PySem.W.Frag) (tt : TT) (δ : List SV) (P : Bool → List SV → Prop) : Prop := ∀ (B0 H0 B H : Hp) (σ : L2.St) (Q : Bool → Hp → Prop), Sd K B0 H0 B H σ δ → (∀ b B' H' δ', Sd K B0 H0 B' H' σ δ' → P b δ' → Q b H') → tt σ H Q
section
variable {K : PySem.W.Frag} {B0 H0 B H B' H' : Hp} {σ : L2.St} {δ δ' : List SV} {ta tb te : TE} {tt t1 t2 : TT} {t u : TS} {d x y : D} {ds es : List D} {E : EndsD} {C p : Addr} {fs fs' : FM} {F F' : List Addr} {i : Nat} {f m : Str}
theorem EX.mono {P P' : D → List SV → Prop} (h : EX K te δ P) (q : ∀ d δ', P d δ' → P' d δ') : EX K te δ P' := fun B0 H0 B H σ Q S k => h B0 H0 B H σ Q S fun v B' H' d δ' S' a pd => k v B' H' d δ' S' a (q d δ' pd)
theorem ETX.mono {P P' : Bool → List SV → Prop} (h : ETX K tt δ P) (q : ∀ b δ', P b δ' → P' b δ') : ETX K tt δ P' := fun B0 H0 B H σ Q S k => h B0 H0 B H σ Q S fun b B' H' δ' S' pd => k b B' H' δ' S' (q b δ' pd)
theorem ET.etx {b : Bool} (h : ET K tt δ b) : ETX K tt δ (fun b' δ' => b' = b ∧ δ' = δ) := fun B0 H0 B H σ Q S q => h B0 H0 B H σ _ S fun B' H' s => q b B' H' δ (S.step s) ⟨rfl, rfl⟩
theorem etx_test {P : D → List SV → Prop} (h : EX K te δ P) (hb : ∀ d δ', P d δ' → ∃ b, d = .bool b) : ETX K (tTest te) δ (fun b δ' => P (.bool b) δ') := fun B0 H0 B H σ Q S q =>
  h B0 H0 B H σ _ S fun v B' H' d δ' S' a pd => by
    obtain ⟨b, rfl⟩ := hb d δ' pd
    cases Dq.bool_inv a
    exact ⟨b, rfl, q b B' H' δ' S' pd⟩
theorem etx_not {P : Bool → List SV → Prop} (h : ETX K tt δ P) : ETX K (tNot tt) δ (fun b δ' => P (!b) δ') := fun B0 H0 B H σ Q S q => h B0 H0 B H σ _ S fun b B' H' δ' S' pd => q (!b) B' H' δ' S' (by show P (!!b) δ'; rw [Bool.not_not]; exact pd)
theorem etx_and {P : Bool → List SV → Prop} {R : Bool → List SV → Prop} (h1 : ETX K t1 δ P) (h2 : ∀ δ', P true δ' → ETX K t2 δ' R) (h3 : ∀ δ', P false δ' → R false δ') : ETX K (tAnd t1 t2) δ R := fun B0 H0 B H σ Q S q =>
  h1 B0 H0 B H σ _ S fun b B1 H1 δ1 S1 pd => by
    cases b with
    | true => exact iteT (h2 δ1 pd B0 H0 B1 H1 σ _ S1 fun b B2 H2 δ2 S2 r => q b B2 H2 δ2 S2 r)
    | false => exact iteF (q false B1 H1 δ1 S1 (h3 δ1 pd))
theorem wp_ifX {P : Bool → List SV → Prop} (h : ETX K tt δ P) (h1 : ∀ δ', P true δ' → WP K t E δ') (h2 : ∀ δ', P false δ' → WP K u E δ') : WP K (tIfS tt t u) E δ := fun B0 H0 B H σ D L S =>
  h B0 H0 B H σ _ S fun b B1 H1 δ1 S1 pd => by
    cases b with
    | true => exact iteT (h1 δ1 pd B0 H0 B1 H1 σ D L S1)
    | false => exact iteF (h2 δ1 pd B0 H0 B1 H1 σ D L S1)
theorem wp_dropX {P : D → List SV → Prop} (h : EX K te δ P) (q : ∀ d δ', P d δ' → E.nx δ') : WP K (tDrop te) E δ := fun B0 H0 B H σ D L S =>
  h B0 H0 B H σ _ S fun v B1 H1 d δ1 S1 a pd => L.nx σ H1 B1 δ1 S1 (q d δ1 pd)
theorem wp_asgX {P : D → List SV → Prop} {j : Nat} (h : EX K te δ P) (q : ∀ d δ', P d δ' → E.nx (δ'.set j (.val d))) : WP K (tAsg te (gName j)) E δ := fun B0 H0 B H σ D L S =>
  h B0 H0 B H σ _ S fun v B1 H1 d δ1 S1 a pd => L.nx _ H1 B1 _ (S1.setVal a) (q d δ1 pd)
/-- an answer together with what has become of the object -/
theorem wp_retS (h : ED K te δ d) (q : E.rs d δ) : WP K (tRet te) E δ := fun B0 H0 B H σ D L S =>
  h B0 H0 B H σ _ S fun v B1 H1 s1 a => L.rs v B1 H1 d σ δ (S.step s1) a q
/-! ### methods that change their object -/
def spM {G : Type} (K : PySem.W.Frag) (C : Addr) (Pre : G → FM → List D → Prop) (Post : G → D → FM → Prop) : Sp := fun vs H Q _ => ∃ B p fs F us ds g, vs = .ref p :: us ∧ Pre g fs ds ∧ Bh B H ∧ BigR K C p fs F B H (.ref p) ∧ (∀ a ∈ F, B a = none) ∧ DqAll K B us ds ∧
  ∀ v B' H' d fs' F', Stm F B H B' H' → Dq K B' v d → BigR K C p fs' F' B' H' (.ref p) → (∀ a ∈ F', (a ∈ F ∨ H a = none) ∧ B' a = none) → Post g d fs' → Q v H'
theorem ex_meth {G : Type} {ta : TA} {Pre : G → FM → List D → Prop} {Post : G → D → FM → Prop} {X : XK} (g : G) (e : δ[i]? = some (hold K C p fs F)) (h : EA K ta δ ds) (r : Pre g fs ds) (hm : fget m fs = none) :
    EX K (tMeth C m (spM K C Pre Post) [] X (tVar i) ta) δ (fun d δ' => ∃ fs' F', δ' = δ.set i (hold K C p fs' F') ∧ Post g d fs') := fun B0 H0 B H σ Q S q => by
  obtain ⟨dx, ws, G, a1, hp, rr, eF, nd, hF⟩ := S.slotBig e
  refine ⟨_, a1, p, dx, ws, rfl, hp, rr.none hm, h B0 H0 B H σ _ S fun vs B1 H1 s1 dv => ?_⟩
  have S1 := S.step s1
  obtain ⟨dx1, ws1, G1, a2, hp1, rr1, eF1, nd1, hF1⟩ := S1.slotBig e
  refine ⟨B1, p, fs, F, vs, ds, g, by rw [List.append_nil], r, s1.bh, ⟨rfl, dx1, ws1, G1, hp1, rr1, eF1, nd1⟩, fun a ma => (hF1 a ma).2.1, dv, fun v B' H' d fs' F' st dq R' hF' post => ?_⟩
  refine q v B' H' d _ (S1.bigTo e st (fun a ma => ⟨R'.some a ma, (hF' a ma).2, ?_, ?_⟩) (fun w ew => ?_) BigR.stab) dq ⟨fs', F', rfl, post⟩
  · rcases (hF' a ma).1 with z | z
    · exact (hF1 a z).2.2
    · exact S1.hist.hh.free z
  · rcases (hF' a ma).1 with z | z
    · exact .inl z
    · exact .inr fun j t q n e1 e2 => new_apart S1 z j t q n e1 e2
  · rw [a2] at ew; cases ew; exact R'
/-- heap without F -/
def wo (F : List Addr) (H : Hp) : Hp := fun a => if a ∈ F then none else H a
theorem wo_in {a : Addr} (h : a ∈ F) : wo F H a = none := if_pos h
theorem wo_out {a : Addr} (h : a ∉ F) : wo F H a = H a := if_neg h
theorem wo_some {a : Addr} {o : HO} (h : wo F H a = some o) : a ∉ F ∧ H a = some o := by
  by_cases z : a ∈ F
  · rw [wo_in z] at h; cases h
  · rw [wo_out z] at h; exact ⟨z, h⟩
theorem wo_none {a : Addr} (h : wo F H a = none) : a ∈ F ∨ H a = none := by
  by_cases z : a ∈ F
  · exact .inl z
  · rw [wo_out z] at h; exact .inr h
def startM (N : List Str) (K : PySem.W.Frag) (C p : Addr) (fs : FM) (F : List Addr) (ds : List D) : List SV := hold K C p fs F :: (ds.map .val ++ List.replicate (N.length - 1 - ds.length) .no)
theorem start_sdM {N : List Str} {us : List V} (hN : 1 + ds.length ≤ N.length) (bh : Bh B H) (hb : ∀ a ∈ F, B a = none) (R : BigR K C p fs F B H (.ref p)) (h : DqAll K B us ds) :
    Sd K B (wo F H) B H (L2.start N (.ref p :: us)) (startM N K C p fs F ds) := by
  have hl := h.len
  have S0 := start_sd (N := N.tail) bh h
  have e1 : L2.start N (.ref p :: us) = some (.ref p) :: L2.start N.tail us := by
    unfold L2.start
    rw [List.map_cons, List.cons_append, List.length_cons, List.length_tail]
    congr 2
    congr 1
    omega
  have e2 : startM N K C p fs F ds = hold K C p fs F :: startD N.tail ds := by
    unfold startM startD
    rw [List.length_tail]
  have away : ∀ (k : Nat) (s : SV) (o : Option V), (startD N.tail ds)[k]? = some s → (s = .no ∨ ∃ d, s = .val d) := fun k s o e => by
    unfold startD at e
    rcases List.mem_append.mp (List.mem_of_getElem? e) with h | h
    · obtain ⟨y, _, rfl⟩ := List.mem_map.mp h; exact .inr ⟨y, rfl⟩
    · exact .inl (List.mem_replicate.mp h).2
  rw [e1, e2]
  refine ⟨⟨Sam.refl _, bh, fun a o e => ⟨o, (wo_some e).2, fun _ => rfl⟩, fun _ _ z => z⟩, by rw [List.length_cons, List.length_cons, S0.len], fun i s e => ?_, fun i j s t o q n a b c d z mz mt => ?_⟩
  · cases i with
    | zero =>
      have e : hold K C p fs F = s := Option.some.inj e
      subst e
      exact ⟨_, rfl, _, rfl, R, BigR.stab, fun a ma => ⟨R.some a ma, hb a ma, wo_in ma⟩⟩
    | succ i =>
      obtain ⟨o, eo, ok⟩ := S0.ok i s e
      refine ⟨o, eo, ?_⟩
      rcases away i s o e with rfl | ⟨d, rfl⟩
      · exact True.intro
      · exact ok
  · cases i with
    | zero =>
      cases j with
      | zero => exact n rfl
      | succ j =>
        rcases away j t q b with rfl | ⟨d, rfl⟩ <;> cases mt
    | succ i => rcases away i s o a with rfl | ⟨d, rfl⟩ <;> cases mz
end
section
variable {P : Program} {w : World} {K : PySem.W.Frag} {mg : Str → Option Value} {base : Heap} {C : Addr}
def EndM (K : PySem.W.Frag) (C p : Addr) (Q : D → FM → Prop) : EndsD := { nx := fun δ => ∃ fs' F', δ[0]? = some (hold K C p fs' F') ∧ Q .none fs', rt := fun _ => False, rs := fun d δ => ∃ fs' F', δ[0]? = some (hold K C p fs' F') ∧ Q d fs' }
theorem stm_end {B H B' H' : Hp} {F F' : List Addr} {fs' : FM} {p : Addr} {σ : L2.St} {δ : List SV} (S : Sd K B (wo F H) B' H' σ δ) (e : δ[0]? = some (hold K C p fs' F')) : Stm F B H B' H' ∧ BigR K C p fs' F' B' H' (.ref p) ∧ ∀ a ∈ F', (a ∈ F ∨ H a = none) ∧ B' a = none := by
  obtain ⟨dx, ws, G, a1, hp, rr, eF, nd, hF⟩ := S.slotBig e
  refine ⟨⟨S.hist.bb, S.hist.bh, fun a o ea na => S.hist.hh a o (by rw [wo_out na]; exact ea), fun a q na z => S.hist.fr a (by rw [wo_out na]; exact q) z⟩, ⟨rfl, dx, ws, G, hp, rr, eF, nd⟩, fun a ma => ⟨wo_none (hF a ma).2.2, (hF a ma).2.1⟩⟩
theorem ok_wpM {G : Type} {x qual : Str} {st : Stmt} {f : Addr} {fd : FuncData} {N ps : List Str} {k : Nat} {Pre : G → FM → List D → Prop} {Post : G → D → FM → Prop} (F : Fun K x qual st f fd) (S : FnScope N ps (defScope st)) (hN : ps.length ≤ N.length) (len : ∀ g fs ds, Pre g fs ds → 1 + ds.length = ps.length)
    (hb : ∀ (cdv : Value), fd.code = cdv → ∀ (A : Around) (outer : List Env) (s : Shared) (H : Hp) (E : XK), Room k (A.deeper (PyProof.Rows.envOfC qual (defScope st) s.heap.objs.size f cdv)) →
      ∃ t, PSs (cxOf CX0 P w K mg base N qual (defScope st) f cdv A outer s H E).nox (defBody st) t ∧ ∀ p F g fs ds, Pre g fs ds → WP K t (EndM K C p (Post g)) (startM N K C p fs F ds)) : FnOk P w K mg base CX0 (k + 1) f fd ps (spM K C Pre Post) := by
  refine F.okC S (fun vs H Q E h => ?_) (fun cdv hcv A outer s H vs Q E hr h => ?_)
  · obtain ⟨B, p, fs, F, us, ds, g, rfl, r, bh, R, hb, a, _⟩ := h
    rw [List.length_cons, a.len, ← len g fs ds r]; omega
  · obtain ⟨t, ht, q⟩ := hb cdv hcv A outer s H E hr
    refine ⟨t, ht, ?_⟩
    obtain ⟨B, p, fs, F, us, ds, g, rfl, r, bh, R, hbF, a, hq⟩ := h
    refine q p F g fs ds r B (wo F H) B H _ _ ⟨fun σ' H' B' δ' S' e => ?_, fun _ _ _ _ _ _ z => z.elim, fun _ _ _ _ _ z => z.elim, fun _ _ _ _ _ z => z.elim, fun _ _ _ _ _ _ _ _ _ _ z => z.elim, fun v B' H' d σ' δ' S' dv e => ?_⟩ (start_sdM (by have := len g fs ds r; omega) bh hbF R a)
    · obtain ⟨fs', F', e, po⟩ := e
      obtain ⟨st, R', hF'⟩ := stm_end S' e
      exact hq _ B' H' _ fs' F' st .non R' hF' po
    · obtain ⟨fs', F', e, po⟩ := e
      obtain ⟨st, R', hF'⟩ := stm_end S' e
      exact hq v B' H' d fs' F' st dv R' hF' po
end
/-! ### fields are stored; an object is made -/
section
variable {K : PySem.W.Frag} {B0 H0 B H B' H' : Hp} {σ : L2.St} {δ δ' : List SV} {ta tb te : TE} {t u : TS} {d x y : D} {ds es : List D} {E : EndsD} {C p : Addr} {fs fs' : FM} {F F' : List Addr} {i : Nat} {f m : Str}
theorem Sd.bigStore {x' : FD} {v' : V} {as' : List Addr} (S : Sd K B0 H0 B H σ δ) (e : δ[i]? = some (hold K C p fs F)) (r : FRep K B H x' v' as') (nw : ∀ a ∈ as', B a = none ∧ H0 a = none ∧ (∀ (j : Nat) (t : SV) (q : Option V), δ[j]? = some t → σ[j]? = some q → a ∉ foot t q)) (nn : as'.Nodup) :
    ∃ dx ws, σ[i]? = some (some (.ref p)) ∧ H p = some (.ins C dx ws) ∧ ws.length = fs.length ∧ ∃ F', Sd K B0 H0 B (upd H p (.ins C dx (putF f v' ws))) σ (δ.set i (hold K C p (putD f x' fs) F')) := by
  obtain ⟨dx, ws, G, a1, hp, rr, rfl, nd, hF⟩ := S.slotBig e
  obtain ⟨n1, n2⟩ := List.nodup_cons.mp nd
  have out : ∀ a ∈ as', a ∉ p :: G := fun a ma => (nw a ma).2.2 i _ _ e a1
  obtain ⟨G', g1, g2, g3⟩ := FsRep.store (f := f) r rr
  have np : p ∉ G' := fun z => (g2 p z).elim n1 fun z => out p z (List.mem_cons_self ..)
  refine ⟨dx, ws, a1, hp, rr.len, p :: G', ?_⟩
  have hpB := (hF p (List.mem_cons_self ..)).2.1
  refine S.bigTo e ⟨Sam.refl _, ⟨fun b o eb => ?_, S.hist.bh.tb.upd (.inr ⟨_, hp, (fun _ z => nomatch z), (fun _ z => nomatch z)⟩) (fun _ z => nomatch z)⟩, fun b o eb nb => ?_, fun b _ _ z => z⟩ (fun b mb => ?_) (fun v ev => ?_) BigR.stab
  · have : b ≠ p := fun z => by subst z; rw [hpB] at eb; cases eb
    rw [upd_ne this]; exact S.hist.bh.sm _ _ eb
  · have : b ≠ p := fun z => nb (z ▸ List.mem_cons_self ..)
    exact ⟨o, (upd_ne this).trans eb, fun _ => rfl⟩
  · rcases List.mem_cons.mp mb with rfl | mb
    · exact ⟨(by rw [upd_same]; exact fun z => nomatch z), hpB, (hF b (List.mem_cons_self ..)).2.2, .inl (List.mem_cons_self ..)⟩
    · have hb : b ≠ p := fun z => np (z ▸ mb)
      rw [upd_ne hb]
      rcases g2 b mb with z | z
      · obtain ⟨h1, h2, h3⟩ := hF b (List.mem_cons_of_mem _ z)
        exact ⟨h1, h2, h3, .inl (List.mem_cons_of_mem _ z)⟩
      · obtain ⟨h1, h2, h3⟩ := nw b z
        exact ⟨r.some b z, h1, h2, .inr fun j t q _ => h3 j t q⟩
  · rw [a1] at ev
    cases ev
    refine ⟨rfl, dx, _, G', upd_same, g1.step (fun _ _ z => z) fun a ma o eo _ => (upd_ne (fun z => np (z ▸ ma) : a ≠ p)).trans eo, rfl, List.nodup_cons.mpr ⟨np, g3 n2 nn fun a ma z => out a ma (List.mem_cons_of_mem _ z)⟩⟩
/-- o.f = a datum -/
theorem wp_fldS (e : δ[i]? = some (hold K C p fs F)) (c : Cls K C) (n : NoAttr K C f) (hl : fs.length < 1000) (h : ED K te δ d) (q : ∀ F', E.nx (δ.set i (hold K C p (putD f (.s d) fs) F'))) : WP K (sFld K (tVar i) te f) E δ := fun B0 H0 B H σ D L S =>
  h B0 H0 B H σ _ S fun v B1 H1 s1 dv => by
    obtain ⟨dx, ws, a1, hp, hw, F', S'⟩ := (S.step s1).bigStore (f := f) (x' := .s d) e ⟨rfl, dv⟩ (fun a ma => by cases ma) .nil
    exact ⟨_, a1, p, C, dx, ws, rfl, hp, c, n, by omega, L.nx _ _ B1 _ S' (q F')⟩
/-- o.f = a new list -/
theorem wp_fldL (e : δ[i]? = some (hold K C p fs F)) (c : Cls K C) (n : NoAttr K C f) (hl : fs.length < 1000) (h : EN K te δ ds) (q : ∀ F', E.nx (δ.set i (hold K C p (putD f (.l ds) fs) F'))) : WP K (sFld K (tVar i) te f) E δ := fun B0 H0 B H σ D L S =>
  h B0 H0 B H σ _ S fun a vs B1 H1 s1 na ba ha dv => by
    obtain ⟨dx, ws, a1, hp, hw, F', S'⟩ := (S.step s1).bigStore (f := f) (x' := .l ds) (v' := .ref a) (as' := [a]) e ⟨a, vs, rfl, rfl, ha, dv⟩ (fun b mb => by
      rw [List.mem_singleton.mp mb]
      exact ⟨ba, S.hist.hh.free na, new_foot (S := S) na⟩) (by simp)
    exact ⟨_, a1, p, C, dx, ws, rfl, hp, c, n, by omega, L.nx _ _ B1 _ S' (q F')⟩
/-- a new list of new lists -/
def ENN (K : PySem.W.Frag) (te : TE) (δ : List SV) (dss : List (List D)) : Prop := ∀ (B0 H0 B H : Hp) (σ : L2.St) (Q : VK), Sd K B0 H0 B H σ δ → (∀ a bs B' H', Stp B H B' H' → (∀ b ∈ a :: bs, H b = none ∧ B' b = none) → (a :: bs).Nodup → H' a = some (.lst (bs.map V.ref)) → LRep K B' H' bs dss → Q (.ref a) H') → te σ H Q
theorem wp_fldLL {dss : List (List D)} (e : δ[i]? = some (hold K C p fs F)) (c : Cls K C) (n : NoAttr K C f) (hl : fs.length < 1000) (h : ENN K te δ dss) (q : ∀ F', E.nx (δ.set i (hold K C p (putD f (.ll dss) fs) F'))) : WP K (sFld K (tVar i) te f) E δ := fun B0 H0 B H σ D L S =>
  h B0 H0 B H σ _ S fun a bs B1 H1 s1 nw nn ha dv => by
    obtain ⟨dx, ws, a1, hp, hw, F', S'⟩ := (S.step s1).bigStore (f := f) (x' := .ll dss) (v' := .ref a) (as' := a :: bs) e ⟨a, bs, rfl, rfl, ha, dv⟩ (fun b mb => by
      obtain ⟨na, ba⟩ := nw b mb
      exact ⟨ba, S.hist.hh.free na, new_foot (S := S) na⟩) nn
    exact ⟨_, a1, p, C, dx, ws, rfl, hp, c, n, by omega, L.nx _ _ B1 _ S' (q F')⟩
/-- C(..) -/
theorem wp_asgMake {G : Type} {ta : TA} {Pre : G → FM → List D → Prop} {Post : G → D → FM → Prop} {X : XK} (g : G) (h : EA K ta δ ds) (r : Pre g [] ds) (hn : ∀ d fs', Post g d fs' → d = .none) (q : ∀ p F' fs', Post g .none fs' → E.nx (δ.set i (hold K C p fs' F'))) :
    WP K (tAsg (tMake C (spM K C Pre Post) [] X ta) (gName i)) E δ := fun B0 H0 B H σ D L S =>
  h B0 H0 B H σ _ S fun vs B1 H1 s1 dv x dx nx ndx hne => by
    have S1 := S.step s1
    have sN : Stp B1 H1 B1 (upd (upd H1 dx (.own x)) x (.ins C dx [])) := (Stp.newOwn s1.bh ndx).trans (.newOwn (Stp.newOwn (o := .own x) s1.bh ndx).bh (by rw [upd_ne (fun z => hne z.symm : x ≠ dx)]; exact nx))
    have bx : B1 x = none := s1.bh.free nx
    refine ⟨B1, x, [], [x], vs, ds, g, by rw [List.append_nil], r, sN.bh, ⟨rfl, dx, [], [], upd_same, .nil, rfl, by simp⟩, fun a ma => by rw [List.mem_singleton.mp ma]; exact bx, dv, fun v B' H' d fs' F' st dq R' hF' post => ?_⟩
    have hd := hn d fs' post
    subst hd
    cases dq
    refine ⟨rfl, ?_⟩
    have st2 : Stp B1 H1 B' H' := ⟨st.bb, st.bh, fun a o ea => ?_, fun a qa z => ?_⟩
    · have S2 := S1.step st2
      refine L.nx _ H' B' _ (S2.set (x := hold K C x fs' F') ⟨_, rfl, R', BigR.stab, fun a ma => ⟨R'.some a ma, (hF' a ma).2, ?_⟩⟩ fun a ma j t o n e1 e2 => ?_) (q x F' fs' post)
      · rcases (hF' a ma).1 with z | z
        · rw [List.mem_singleton.mp z]; exact S1.hist.hh.free nx
        · exact S1.hist.hh.free (by
            cases e : H1 a with
            | none => rfl
            | some o => exact absurd z (ne_none_of sN.hh (by rw [e]; exact fun z => nomatch z)))
      · rcases (hF' a ma).1 with z | z
        · rw [List.mem_singleton.mp z]; exact new_apart S1 nx j t o n e1 e2
        · exact new_apart S1 (by
            cases e : H1 a with
            | none => rfl
            | some o => exact absurd z (ne_none_of sN.hh (by rw [e]; exact fun z => nomatch z))) j t o n e1 e2
    · have ne : a ≠ x := fun z => by subst z; rw [nx] at ea; cases ea
      obtain ⟨o1, h1, h2⟩ := sN.hh a o ea
      obtain ⟨o2, h3, h4⟩ := st.hh a o1 h1 (fun z => ne (List.mem_singleton.mp z))
      exact ⟨o2, h3, fun z => by have e1 := h2 z; subst e1; exact h4 z⟩
    · have ne : a ≠ x := fun e => by subst e; exact qa nx
      exact st.fr a (ne_none_of sN.hh qa) (fun z => ne (List.mem_singleton.mp z)) z
end
end DX

namespace DX
open PySem PySem.Spec PyProof.Rows L2
variable [TabEnv]
/-! ### rules with the written part named -/
section
variable {X : Cx} {K : PySem.W.Frag} {e o i : Expr} {td ty te ta tv : TE} {pos pos' apos : Pos} {value : Expr} {f : Str}
theorem pget_list (hK : X.K = K := by rfl) : PGet X (rIxL K) := by
  subst hK
  intro pins s σ H o i ov iv Q I ro ri h
  obtain ⟨p, xs, k, z, rfl, rfl, hq, he, q⟩ := h
  cases ro
  obtain ⟨t, rfl⟩ := ri
  obtain ⟨its, r, pl, hz⟩ := I.list hq
  obtain ⟨j, h1, h2, h3, h4, h5⟩ := atI_get he
  obtain ⟨w, ew, rw'⟩ := r.get h2
  have hl := r.length
  have hn := line63
  have fin : L2.EP X pins σ Q w s := ⟨z, H, I, rw', q⟩
  by_cases h0 : 0 ≤ k
  · have hj : k.toNat = j := by
      rw [seqIndex_of h0 h5] at h1
      exact Option.some.inj h1
    exact wpAny_getItem_list pl.isList h0 (by omega) (by rw [hj]; simpa using ew) fin
  · have hj : (k + (its.toArray.size : Int)).toNat = j := by
      rw [seqIndex_neg (by omega) h4] at h1
      rw [List.size_toArray, ← hl]
      exact Option.some.inj h1
    exact wpAny_getItem_list_neg pl.isList (by omega) (by rw [List.size_toArray] <;> omega) (by omega) (by rw [hj]; simpa using ew) fin
theorem kpe_fld (he : PE X e ta) (hK : X.K = K := by rfl) (hb : attributeBase e f X.env (eval e X.env) = eval e X.env := by rfl) : PE X (.Attribute e f pos) (tFld K ta f) := by subst hK; exact pe_fld he hb
theorem kps_fld (ha : PE X o ta) (hv : PE X value tv) (hK : X.K = K := by rfl) (hs : swapsWith value (some (.Attribute o f pos')) pos.line X.env = pure false := by rfl) : PS X (.Assign [.Attribute o f pos'] value pos) (sFld K ta tv f) := by subst hK; exact ps_fld ha hv hs
/-- locked, or locked already -/
def tLkE (t : TE) : TE := fun σ H Q => tLockE t σ H Q ∨ t σ H Q
theorem pe_lkE (h : PE X e te) : PE X e (tLkE te) := ⟨fun pins s σ H Q I w => w.elim (fun w => (pe_lock h).run pins s σ H Q I w) fun w => h.run pins s σ H Q I w⟩
end
section
variable {K : PySem.W.Frag} {B0 H0 B H B' H' : Hp} {σ : L2.St} {δ δ' : List SV} {ta tb te : TE} {t u : TS} {d x y : D} {ds es : List D} {E : EndsD} {C p : Addr} {fs fs' : FM} {F F' : List Addr} {i : Nat} {f m : Str}
/-! ### a method that only reads, of an object that changes -/
def Thin : D → Prop
  | .none => True
  | .bool _ => True
  | .int _ => True
  | .str _ => True
  | .dict es => ∀ p ∈ es, Scal p.1 ∧ Scal p.2
  | _ => False
def knD : FD → D
  | .s d => d
  | .l ds => .list ds
  | .ll dss => .list (dss.map PyData.list)
  | .la _ dss => .list (dss.map PyData.list)
  | .m es => .dict es
/-- a method that reads its object, with a ghost -/
def spRG {G : Type} (K : PySem.W.Frag) (C : Addr) (Pre : G → FsD → List D → Prop) (Post : G → D → Prop) : Sp := fun vs H Q _ => ∃ B p dx ws fs us ds g, vs = .ref p :: us ∧ Pre g fs ds ∧ Bh B H ∧ H p = some (.ins C dx ws) ∧ Few ws fs ∧ FldOk K B ws fs ∧ DqAll K B us ds ∧ ∀ v B' H' d, Stp B H B' H' → Dq K B' v d → Post g d → Q v H'
def kn (fs : FM) : FsD := fs.map fun q => (q.1, knD q.2)
def NoM (fs : FM) : Prop := ∀ f es, (f, FD.m es) ∉ fs
theorem LRep.kn {B1 : Hp} {bs : List Addr} {dss : List (List D)} (h : LRep K B H bs dss) (hb : Sam B B1) : (∀ a ∈ bs, B1 a = H a) → DqAll K B1 (bs.map V.ref) (dss.map PyData.list) := by
  induction h with
  | nil => exact fun _ => .nil
  | cons e q _ ih => exact fun hh => .cons (.lst (.inl (.inl (by rw [hh _ (List.mem_cons_self ..)]; exact e))) (DqAll.up hb _ _ q)) (ih fun a ma => hh a (List.mem_cons_of_mem _ ma))
theorem FRep.kn {B1 : Hp} {x : FD} {v : V} {as : List Addr} (h : FRep K B H x v as) (hb : Sam B B1) (hh : ∀ a ∈ as, B1 a = H a) : Dq K B1 v (knD x) := by
  cases x with
  | s d => exact Dq.up hb _ _ h.2
  | l ds =>
    obtain ⟨a, vs, rfl, rfl, e, q⟩ := h
    exact .lst (.inl (.inl (by rw [hh a (List.mem_cons_self ..)]; exact e))) (DqAll.up hb _ _ q)
  | ll dss =>
    obtain ⟨a, bs, rfl, rfl, e, q⟩ := h
    exact .lst (.inl (.inl (by rw [hh a (List.mem_cons_self ..)]; exact e))) (q.kn hb fun b mb => hh b (List.mem_cons_of_mem _ mb))
  | la bs dss =>
    obtain ⟨a, rfl, rfl, e, q⟩ := h
    exact .lst (.inl (.inl (by rw [hh a (List.mem_cons_self ..)]; exact e))) (q.kn hb fun b mb => hh b (List.mem_cons_of_mem _ mb))
  | m es =>
    obtain ⟨a, vs, rfl, rfl, e, q⟩ := h
    exact .dct (.inl (by rw [hh a (List.mem_cons_self ..)]; exact e)) (DqKv.up hb _ _ q)
theorem FsRep.keys {ws : List (Str × V)} {G : List Addr} (h : FsRep K B H fs ws G) : ws.map Prod.fst = fs.map Prod.fst := by
  induction h with
  | nil => rfl
  | cons _ _ ih => rw [List.map_cons, List.map_cons, ih]
theorem FsRep.kn {B1 : Hp} {ws : List (Str × V)} {G : List Addr} (h : FsRep K B H fs ws G) (hb : Sam B B1) : (∀ a ∈ G, B1 a = H a) → (fs.map Prod.fst).Nodup → FldOk K B1 ws (kn fs) := by
  induction h with
  | nil => exact fun _ _ f d hm => by cases hm
  | @cons g y u as0 fs ws G r t ih =>
    intro hh nd f d hm
    obtain ⟨n1, n2⟩ := List.nodup_cons.mp nd
    rcases List.mem_cons.mp hm with z | z
    · injection z with z1 z2
      subst z1; subst z2
      exact ⟨u, lookup_hit rfl, r.kn hb fun a ma => hh a (List.mem_append_left _ ma)⟩
    · have hne : ¬ g = f := fun e => by
        subst e
        obtain ⟨q, mq, eq⟩ := List.mem_map.mp z
        have : q.1 = g := congrArg Prod.fst eq
        exact n1 (List.mem_map.mpr ⟨q, mq, this⟩)
      obtain ⟨v, a, b⟩ := ih (fun a ma => hh a (List.mem_append_right _ ma)) n2 f d z
      exact ⟨v, (lookup_miss hne).trans a, b⟩
theorem FsRep.lists {ws : List (Str × V)} {G : List Addr} (h : FsRep K B H fs ws G) : NoM fs → ∀ a ∈ G, ∃ vs, H a = Option.some (.lst vs) := by
  induction h with
  | nil => exact fun _ a ma => by cases ma
  | @cons g y u as0 fs ws G r t ih =>
    intro hn a ma
    rcases List.mem_append.mp ma with z | z
    · cases y with
      | s d => rw [r.1] at z; cases z
      | l ds =>
        obtain ⟨b, vs, rfl, rfl, e, q⟩ := r
        rw [List.mem_singleton.mp z]; exact ⟨_, e⟩
      | ll dss =>
        obtain ⟨b, bs, rfl, rfl, e, q⟩ := r
        rcases List.mem_cons.mp z with rfl | z
        · exact ⟨_, e⟩
        · exact q.some a z
      | la bs dss =>
        obtain ⟨b, rfl, rfl, e, q⟩ := r
        rcases List.mem_cons.mp z with rfl | z
        · exact ⟨_, e⟩
        · exact q.some a z
      | m es => exact absurd (List.mem_cons_self ..) (hn g es)
    · exact ih (fun f es hm => hn f es (List.mem_cons_of_mem _ hm)) a z
theorem Scal.any {B B' : Hp} {v : V} (s : Scal d) (h : Dq K B v d) : Dq K B' v d := s.dq h
theorem dqkv_scal {B B' : Hp} : ∀ {es : List (D × D)} {vs : List (Key × V)}, (∀ p ∈ es, Scal p.1 ∧ Scal p.2) → DqKv K B vs es → DqKv K B' vs es
  | [], _, _, h => by cases h; exact .nil
  | e :: es, _, hs, h => by
    cases h with
    | cons a b c => exact .cons ((hs _ (List.mem_cons_self ..)).1.any a) ((hs _ (List.mem_cons_self ..)).2.any b) (dqkv_scal (fun p mp => hs p (List.mem_cons_of_mem _ mp)) c)
theorem Thin.off {G : List Addr} {v : V} (ht : Thin d) (hl : ∀ a ∈ G, ∃ vs, B' a = some (.lst vs)) (h : Dq K B' v d) : Dq K (wo G B') v d := by
  cases h with
  | non => exact .non
  | bl b => exact .bl b
  | int i => exact .int i
  | str x => exact .str x
  | lst _ _ => exact ht.elim
  | tup _ _ => exact ht.elim
  | @dct a xs es hr hk =>
    have na : a ∉ G := fun z => by
      obtain ⟨vs, e⟩ := hl a z
      rcases hr with hr | ⟨o, hr⟩
      · rw [e] at hr; cases hr
      · rw [e] at hr; cases hr
    refine .dct ?_ (dqkv_scal ht hk)
    rcases hr with hr | ⟨o, hr⟩
    · exact .inl (by rw [wo_out na]; exact hr)
    · exact .inr ⟨o, by rw [wo_out na]; exact hr⟩
theorem kn_keys : (kn fs).map Prod.fst = fs.map Prod.fst := by
  unfold kn
  rw [List.map_map]; rfl
theorem fget_none (h : m ∉ fs.map Prod.fst) : fget m fs = none := by
  induction fs with
  | nil => rfl
  | cons q fs ih =>
    obtain ⟨g, y⟩ := q
    unfold fget
    rw [if_neg (fun z => h (by rw [← z]; exact List.mem_cons_self ..) : ¬ g = m)]
    exact ih fun z => h (List.mem_cons_of_mem _ z)
theorem ep_methF {G : Type} {ta : TA} {Pre : G → FsD → List D → Prop} {Post : G → D → Prop} {X : XK} (g : G) (e : δ[i]? = some (hold K C p fs F)) (hn : NoM fs) (hd : (fs.map Prod.fst).Nodup) (h : EA K ta δ ds) (r : Pre g (kn fs) ds) (hm : m ∉ fs.map Prod.fst) (ht : ∀ d, Post g d → Thin d) :
    EP K (tMeth C m (spRG K C Pre Post) [] X (tVar i) ta) δ (Post g) := fun B0 H0 B H σ Q S q => by
  obtain ⟨dx, ws, G, a1, hp, rr, rfl, nd, hF⟩ := S.slotBig e
  refine ⟨_, a1, p, dx, ws, rfl, hp, rr.none (fget_none hm), h B0 H0 B H σ _ S fun vs B1 H1 s1 dv => ?_⟩
  obtain ⟨dx1, ws1, G1, a2, hp1, rr1, eF1, nd1, hF1⟩ := (S.step s1).slotBig e
  have eG : G = G1 := by injection eF1
  subst eG
  have bG : ∀ a ∈ G, B1 a = none := fun a ma => (hF1 a (List.mem_cons_of_mem _ ma)).2.1
  have k1 : Sam B1 (fun a => if a ∈ G then H1 a else B1 a) := fun a o ea => by
    have : a ∉ G := fun z => by rw [bG a z] at ea; cases ea
    refine ⟨o, ?_, fun _ => rfl⟩
    show (if a ∈ G then H1 a else B1 a) = _
    rw [if_neg this]; exact ea
  have k2 : Sam (fun a => if a ∈ G then H1 a else B1 a) H1 := fun a o ea => by
    have ea : (if a ∈ G then H1 a else B1 a) = some o := ea
    by_cases z : a ∈ G
    · rw [if_pos z] at ea; exact ⟨o, ea, fun _ => rfl⟩
    · rw [if_neg z] at ea; exact s1.bh.sm _ _ ea
  have hkn := rr1.kn k1 (fun a ma => if_pos ma) hd
  refine ⟨_, p, dx1, ws1, kn fs, vs, ds, g, by rw [List.append_nil], r, ⟨k2, s1.bh.tb⟩, hp1, fun x hx => ?_, hkn, DqAll.up k1 _ _ dv, fun v B' H' d s2 b pd => ?_⟩
  · rw [kn_keys, ← rr1.keys]
    cases el : ws1.lookup x with
    | none => rw [el] at hx; cases hx
    | some v =>
      refine Classical.byContradiction fun z => ?_
      have : ∀ (l : List (Str × V)), x ∉ l.map Prod.fst → l.lookup x = none := fun l => by
        induction l with
        | nil => exact fun _ => rfl
        | cons q l ih =>
          intro hq
          exact (lookup_miss (fun e => hq (e ▸ List.mem_cons_self ..) : ¬ q.1 = x)).trans (ih fun z => hq (List.mem_cons_of_mem _ z))
      rw [this _ z] at el; cases el
  · have hlst : ∀ a ∈ G, ∃ vs, B' a = some (.lst vs) := fun a ma => by
      obtain ⟨us, eu⟩ := rr1.lists hn a ma
      exact ⟨us, s2.bb.at (by show (if a ∈ G then H1 a else B1 a) = _; rw [if_pos ma]; exact eu)⟩
    refine q v (wo G B') H' d (s1.trans ⟨fun a o ea => ?_, ⟨fun a o ea => s2.bh.sm _ _ (wo_some ea).2, s2.bh.tb⟩, s2.hh, fun a ha hb => ?_⟩) ((ht d pd).off hlst b) pd
    · have na : a ∉ G := fun z => by rw [bG a z] at ea; cases ea
      rw [wo_out na]
      exact (k1.trans s2.bb) a o ea
    · by_cases z : a ∈ G
      · exact wo_in z
      · rw [wo_out z]
        exact s2.fr a ha (by show (if a ∈ G then H1 a else B1 a) = _; rw [if_neg z]; exact hb)
theorem ep_methG {G : Type} {fs : FsD} {ta : TA} {Pre : G → FsD → List D → Prop} {Post : G → D → Prop} {X : XK} (g : G) (e : δ[i]? = some (.ob C fs)) (h : EA K ta δ ds) (r : Pre g fs ds) (hm : m ∉ fs.map (·.1)) : EP K (tMeth C m (spRG K C Pre Post) [] X (tVar i) ta) δ (Post g) := fun B0 H0 B H σ Q S q => by
  obtain ⟨p, dx, ws, a, hp, fw, hf⟩ := S.slotOb e
  refine ⟨_, a, p, dx, ws, rfl, hp, Few.none fw hm, h B0 H0 B H σ _ S fun vs B1 H1 s1 dv => ?_⟩
  exact ⟨B1, p, dx, ws, fs, vs, ds, g, by rw [List.append_nil], r, s1.bh, s1.hh.at hp, fw, hf.up s1.bb, dv, fun v B' H' d s2 b pd => q v B' H' d (s1.trans s2) b pd⟩
/-! ### a new list of new lists -/
theorem LRep.up {bs : List Addr} {dss : List (List D)} (h : LRep K B H bs dss) (hb : Sam B B') (hh : Sam H H') : LRep K B' H' bs dss := h.step (fun w d => Dq.up hb d w) fun a ma o e n => hh.at e n
theorem LRep.snoc {b : Addr} {bs : List Addr} {vs : List V} {dss : List (List D)} (h : LRep K B H bs dss) (e : H b = Option.some (.lst vs)) (q : DqAll K B vs ds) : LRep K B H (bs ++ [b]) (dss ++ [ds]) := by
  induction h with
  | nil => exact .cons e q .nil
  | cons e' q' _ ih => exact .cons e' q' ih
theorem enn_lc {α : Type} {xs : List α} {gd : α → D} {wi : TI} {g : TG} {vs : List Nat} {f : α → List D} {af : α → List SV} (hw : EI K wi δ (xs.map gd)) (hl : xs.length ≤ sizeLine)
    (hg : ∀ x, x ∈ xs → GW K g vs (wipeD δ vs) (gd x) (af x)) (he : ∀ x, x ∈ xs → EN K te (af x) (f x)) : ENN K (tLc wi g tYes te vs) δ (xs.map f) := fun B0 H0 B H σ Q S q =>
  hw B0 H0 B H σ _ S fun J B1 H1 s1 yd L nL => by
    have S1 := S.step s1
    have hfoot := new_foot (S := S1) nL
    have h0L := S1.hist.hh.free nL
    refine ⟨fun k m H' => m = xs.length - k ∧ k ≤ xs.length ∧ ∃ B' bs, Sd K B1 H0 B' H' σ δ ∧ B' L = none ∧ H' L = some (.lst (bs.map V.ref)) ∧ LRep K B' H' bs ((xs.take k).map f) ∧ (∀ b ∈ bs, H1 b = none ∧ B' b = none ∧ b ≠ L) ∧ bs.Nodup ∧ Stp B1 H1 B' H',
      ⟨_, rfl, Nat.zero_le _, B1, [], ?_, s1.bh.free nL, upd_same, ?_, fun b mb => (by cases mb), .nil, .newOwn s1.bh nL⟩, ?_⟩
    · exact (S1.past S1.hist.bb (Sam.refl _)).step (.newOwn s1.bh nL)
    · rw [List.take_zero]; exact .nil
    rintro k m H' ⟨rfl, hk, B', bs, S', bL, hL, hA, hbs, hnd, sp⟩
    obtain ⟨y1, y2⟩ := yd B' H' k S'.hist.bb S'.hist.bh
    by_cases hlt : k < xs.length
    · obtain ⟨go, yy⟩ := y1 (by rw [List.length_map]; exact hlt)
      refine .inr ⟨go, fun H'' => ∃ B'' bs, Sd K B1 H0 B'' H'' σ δ ∧ B'' L = none ∧ H'' L = some (.lst (bs.map V.ref)) ∧ LRep K B'' H'' bs ((xs.take (k + 1)).map f) ∧ (∀ b ∈ bs, H1 b = none ∧ B'' b = none ∧ b ≠ L) ∧ bs.Nodup ∧ Stp B1 H1 B'' H'', fun H'' z => ⟨xs.length - (k + 1), by omega, rfl, hlt, z⟩, fun x H2 yl => ?_⟩
      obtain ⟨B2, d', s2, ed', dp⟩ := yy x H2 yl
      have ed : xs[k]? = some xs[k] := List.getElem?_eq_getElem hlt
      have eg : d' = gd xs[k] := by
        rw [List.getElem?_map, ed] at ed'
        exact (Option.some.inj ed').symm
      subst eg
      have hm : xs[k] ∈ xs := List.getElem_mem hlt
      have hLne : H' L ≠ none := by rw [hL]; exact fun z => nomatch z
      have S2 := S'.step s2
      refine hg xs[k] hm B1 H0 B2 H2 _ _ _ (S2.wipe vs) dp fun σ3 S3 ew => ⟨ew.trans wipe_wipe, tyes_true (iteT (he xs[k] hm B1 H0 B2 H2 _ _ S3 fun pp us B4 H4 s4 np bp hp da => ?_))⟩
      have st := s2.trans s4
      have hL4 : H4 L = some (.lst (bs.map V.ref)) := st.hh.at hL
      have bL4 : B4 L = none := st.fr L hLne bL
      have np' : H' pp = none := s2.hh.free np
      have hpL : pp ≠ L := fun z => hLne (z ▸ np')
      have S4 := S'.step st
      refine ⟨bs.map V.ref, hL4, ?_, B4, bs ++ [pp], S4.updFree bL4 h0L hfoot (.inr ⟨_, hL4, nt_lst⟩) nt_lst.1, bL4, (by rw [upd_same, List.map_append]; rfl), ?_, fun b mb => ?_, ?_, ?_⟩
      · have h1 := hA.len
        rw [List.length_map, List.length_take] at h1
        rw [List.length_map]; omega
      · rw [List.take_add_one, ed, List.map_append]
        refine LRep.step (fun _ _ z => z) ((hA.up st.bb st.hh).snoc hp da) fun a ma o eo _ => ?_
        rcases List.mem_append.mp ma with z | z
        · exact (upd_ne (hbs a z).2.2).trans eo
        · rw [List.mem_singleton.mp z] at eo ⊢; exact (upd_ne hpL).trans eo
      · rcases List.mem_append.mp mb with z | z
        · obtain ⟨h1, h2, h3⟩ := hbs b z
          obtain ⟨us', eu⟩ := hA.some b z
          exact ⟨h1, st.fr b (by rw [eu]; exact fun z => nomatch z) h2, h3⟩
        · rw [List.mem_singleton.mp z]
          exact ⟨sp.hh.free np', bp, hpL⟩
      · refine List.nodup_append.mpr ⟨hnd, by simp, fun a ma b mb e => ?_⟩
        rw [List.mem_singleton.mp mb] at e
        subst e
        obtain ⟨us', eu⟩ := hA.some a ma
        rw [np'] at eu; cases eu
      · exact (sp.trans st).updNew nL bL4 ⟨_, hL4, nt_lst⟩ nt_lst.1
    · have e : k = xs.length := by omega
      subst e
      rw [List.take_length] at hA
      refine .inl ⟨y2 (by rw [List.length_map]), q L bs B' H' (s1.trans sp) (fun b mb => ?_) ?_ hL hA⟩
      · rcases List.mem_cons.mp mb with rfl | mb
        · exact ⟨s1.hh.free nL, bL⟩
        · exact ⟨s1.hh.free (hbs b mb).1, (hbs b mb).2.1⟩
      · exact List.nodup_cons.mpr ⟨fun z => (hbs L z).2.2 rfl, hnd⟩
/-! ### dicts of ints -/
def kvD (ms : List (Int × D)) : List (D × D) := ms.map fun q => (PyData.int q.1, q.2)
def kget (k : Int) : List (Int × D) → Option D
  | [] => none
  | (j, d) :: r => if j = k then some d else kget k r
theorem dqkv_get : ∀ {ms : List (Int × D)} {vs : List (Key × V)} {k : Int}, DqKv K B vs (kvD ms) → (∀ d, kget k ms = some d → ∃ v, valV vs (Sum.inl k) = some v ∧ Dq K B v d) ∧ (kget k ms = none → valV vs (Sum.inl k) = none)
  | [], _, k, h => by
    cases h
    exact ⟨fun d e => (by cases e), fun _ => rfl⟩
  | (j, d0) :: ms, _, k, h => by
    cases h with
    | @cons key v vs e d' ds h1 h2 h3 =>
      have hk : key = Sum.inl j := by
        cases key with
        | inl z => cases h1; rfl
        | inr z => cases h1
      subst hk
      have ih := dqkv_get (ms := ms) (k := k) h3
      unfold kget
      by_cases z : j = k
      · subst z
        rw [if_pos rfl]
        refine ⟨fun d e => ?_, fun e => by cases e⟩
        cases e
        exact ⟨v, valV_pos rfl, h2⟩
      · rw [if_neg z]
        have hne : ¬ (Sum.inl j : Key) = Sum.inl k := fun e => z (by injection e)
        rw [valV_neg hne]
        exact ih
theorem ed_dget {ms : List (Int × D)} {k : Int} (h : ED K ta δ (.dict (kvD ms))) (hk : ED K tb δ (.int k)) (e : kget k ms = some d) : ED K (tDGet ta tb) δ d := fun B0 H0 B H σ Q S q =>
  h B0 H0 B H σ _ S fun v B1 H1 s1 a => hk B0 H0 B1 H1 σ _ (S.step s1) fun w B2 H2 s2 b => by
    cases Dq.int_inv b
    cases a with
    | dct hr hkv =>
      obtain ⟨v, ev, dv⟩ := (dqkv_get hkv).1 d e
      exact ⟨_, v, rfl, .inl ⟨_, Sum.inl k, rd_up s2.hh (rd_up s1.bh hr), rfl, ev.symm⟩, q v B2 H2 (s1.trans s2) (Dq.up s2.bb _ _ dv)⟩
/-- k not in d, d owned -/
theorem ed_dnotinOwn {ms : List (Int × D)} {k : Int} (e : δ[i]? = some (.own (.m (kvD ms)))) (hk : ED K tb δ (.int k)) : ED K (tDNotIn tb (tVar i)) δ (.bool (kget k ms).isNone) := fun B0 H0 B H σ Q S q =>
  hk B0 H0 B H σ _ S fun w B1 H1 s1 b => by
    cases Dq.int_inv b
    obtain ⟨p, vs, a1, hp, bp, h0, dp⟩ := (S.step s1).slotMap e
    obtain ⟨g1, g2⟩ := dqkv_get (k := k) dp
    refine ⟨_, a1, p, valV vs (Sum.inl k), rfl, DGet.k (k := Sum.inl k) hp, ?_⟩
    cases e : kget k ms with
    | none => rw [g2 e]; rw [e] at q; exact q _ B1 H1 s1 (.bl _)
    | some d =>
      obtain ⟨v, ev, _⟩ := g1 d e
      rw [ev]; rw [e] at q; exact q _ B1 H1 s1 (.bl _)
/-- x = {k: v} -/
theorem wp_asgDisp1 {tv : TE} {k : Int} (hk : ED K tb δ (.int k)) (hv : ED K tv δ d) (q : E.nx (δ.set i (.own (.m (kvD [(k, d)]))))) : WP K (tAsg (tDisp [(tb, tv)]) (gName i)) E δ := fun B0 H0 B H σ D L S => fun p np => by
  have sN : Stp B H B (upd H p (.dK [])) := .newOwn S.hist.bh np
  refine hk B0 H0 B _ σ _ (S.step sN) fun w B1 H1 s1 b => hv B0 H0 B1 H1 σ _ ((S.step sN).step s1) fun v B2 H2 s2 dv => ?_
  cases Dq.int_inv b
  have st := (sN.trans s1).trans s2
  have hp2 : H2 p = some (.dK []) := (s1.trans s2).hh.at upd_same
  have bp2 : B2 p = none := (s1.trans s2).fr p (by rw [upd_same]; exact fun z => nomatch z) (S.hist.bh.free np)
  refine ⟨hp2, [(Sum.inl k, v)], rfl, (by show 1 ≤ 15; decide), ?_⟩
  have S2 := (S.step st).updFree (u := .dK [((Sum.inl k : Key), v)]) bp2 (S.hist.hh.free np) (new_foot (S := S) np) (.inr ⟨_, hp2, (fun _ z => nomatch z), (fun _ z => nomatch z)⟩) (fun _ z => nomatch z)
  refine L.nx _ _ B2 _ (S2.set (x := .own (.m (kvD [(k, d)]))) ⟨p, _, rfl, upd_same, bp2, S.hist.hh.free np, _, rfl, .cons (.int _) dv .nil⟩ fun z mz => ?_) q
  rw [List.mem_singleton.mp mz]
  exact fun j t o _ e1 e2 => new_foot (S := S) np j t o e1 e2
/-- x = xs.pop(), xs owned -/
theorem wp_pop {j : Nat} (e : δ[i]? = some (.own (.l (ds ++ [d])))) (q : E.nx ((δ.set i (.own (.l ds))).set j (.val d))) : WP K (tAsg (tBM0 K "list" rPop (tVar i)) (gName j)) E δ := fun B0 H0 B H σ D L S => by
  obtain ⟨p, vs, a1, hp, bp, h0, dp⟩ := S.slotOwn e
  have hl : vs.length = ds.length + 1 := by rw [dp.len, List.length_append]; rfl
  obtain ⟨y, hy, dy⟩ := dp.get (i := ds.length) (d := d) (by simp)
  refine ⟨_, a1, .inl ⟨rfl, vs, .inl (.inl hp)⟩, p, vs, y, rfl, rfl, hp, by rw [hl]; exact hy, L.nx _ _ B _ ?_ q⟩
  refine (own_upd (yo := .l ds) (u := .lst vs.dropLast) S e a1 bp h0 ⟨_, rfl, ?_⟩).setVal dy
  have := dp.take ds.length
  rw [List.take_left'] at this
  · rw [List.dropLast_eq_take, hl]; exact this
  · rfl
theorem et_truthOwn (e : δ[i]? = some (.own (.l ds))) : ET K (tTruQ K (tVar i)) δ (!ds.isEmpty) := fun B0 H0 B H σ Q S q => by
  obtain ⟨p, vs, a1, hp, bp, h0, dp⟩ := S.slotOwn e
  exact ⟨_, a1, _, .inl ⟨vs, .inl (.inl hp), rfl⟩, by rw [emp_len dp.len]; exact q B H (.refl S.hist.bh)⟩
/-- xs.reverse(), xs owned -/
theorem wp_reverse (e : δ[i]? = some (.own (.l ds))) (q : E.nx (δ.set i (.own (.l ds.reverse)))) : WP K (tDrop (tBM0 K "list" rReverse (tVar i))) E δ := fun B0 H0 B H σ D L S => by
  obtain ⟨p, vs, a1, hp, bp, h0, dp⟩ := S.slotOwn e
  exact ⟨_, a1, .inl ⟨rfl, vs, .inl (.inl hp)⟩, p, vs, rfl, rfl, hp, L.nx _ _ B _ (own_upd (yo := .l _) S e a1 bp h0 ⟨_, rfl, dqall_rev dp⟩) q⟩
/-! ### the keys of a dict -/
theorem Stp.unlock {a : Addr} {od : Obj} {ks : List (Key × V)} (bh : Bh B H) (hd : B a = some (.dK ks)) (s : Stp (upd B a (.frz od (.dK ks))) (upd H a (.frz od (.dK ks))) B' H') : B' a = some (.frz od (.dK ks)) ∧ H' a = some (.frz od (.dK ks)) ∧ Stp B H (upd B' a (.dK ks)) (upd H' a (.dK ks)) := by
  have b1 : B' a = some (.frz od (.dK ks)) := s.bb.at upd_same
  have b2 := s.bh.at b1
  refine ⟨b1, b2, fun z o e => ?_, ⟨fun z o e => ?_, s.bh.tb.upd (.inr ⟨_, b2, (fun _ z => nomatch z), (fun _ z => nomatch z)⟩) (fun _ z => nomatch z)⟩, fun z o e => ?_, fun z q w => ?_⟩
  · by_cases x : z = a
    · subst x; rw [hd] at e; rw [upd_same]; exact ⟨o, e, fun _ => rfl⟩
    · rw [upd_ne x]; exact s.bb _ _ (by rw [upd_ne x]; exact e)
  · by_cases x : z = a
    · subst x; rw [upd_same] at e ⊢; exact ⟨o, e, fun _ => rfl⟩
    · rw [upd_ne x] at e ⊢; exact s.bh.sm _ _ e
  · by_cases x : z = a
    · subst x; rw [bh.at hd] at e; rw [upd_same]; exact ⟨o, e, fun _ => rfl⟩
    · rw [upd_ne x]; exact s.hh _ _ (by rw [upd_ne x]; exact e)
  · have x : z ≠ a := fun x => by subst x; rw [hd] at w; cases w
    rw [upd_ne x]
    exact s.fr z (by rw [upd_ne x]; exact q) (by rw [upd_ne x]; exact w)
theorem dqkv_key : ∀ {ms : List (Int × D)} {vs : List (Key × V)} {n : Nat} {k : Key} {v : V}, DqKv K B vs (kvD ms) → vs[n]? = some (k, v) → ∃ q, ms[n]? = some q ∧ kV k = .int q.1
  | [], _, n, _, _, h, e => by cases h; cases n <;> cases e
  | (j, d0) :: ms, _, n, _, _, h, e => by
    cases h with
    | cons h1 h2 h3 =>
      cases n with
      | zero => cases e; exact ⟨_, rfl, Dq.int_inv h1⟩
      | succ n => exact dqkv_key (ms := ms) (n := n) h3 e
theorem en_lcKeys {mm : Nat} {ms : List (Int × D)} {g : TG} {tt : TT} {vs : List Nat} {p : Int → Bool} {f : Int → D} {af : Int → List SV} (e : δ[mm]? = some (.val (.dict (kvD ms)))) (hl : ms.length ≤ sizeLine)
    (hg : ∀ x, x ∈ ms.map Prod.fst → GW K g vs (wipeD δ vs) (.int x) (af x)) (ht : ∀ x, x ∈ ms.map Prod.fst → ET K tt (af x) (p x)) (he : ∀ x, x ∈ ms.map Prod.fst → p x = true → ED K te (af x) (f x)) : EN K (tLkE (tLc (iKeys (tVar mm)) g tt te vs)) δ (((ms.map Prod.fst).filter p).map f) := by
  have core : ∀ (B0 H0 B H : Hp) (σ : L2.St) (Q : VK) (a : Addr) (o : Obj) (ks : List (Key × V)), Sd K B0 H0 B H σ δ → σ[mm]? = some (some (.ref a)) → B a = some (.frz o (.dK ks)) → DqKv K B ks (kvD ms) →
      (∀ l ws B' H', Stp B H B' H' → H l = none → B' l = none → H' l = some (.lst ws) → DqAll K B' ws (((ms.map Prod.fst).filter p).map f) → Q (.ref l) H') → tLc (iKeys (tVar mm)) g tt te vs σ H Q := fun B0 H0 B H σ Q a o ks S hm hB hkv q => by
    refine lcW_at (xs := ms.map Prod.fst) (gd := PyData.int) S (fun R k => ?_) (by rw [List.length_map]; exact hl) hg ht he q
    have hkl : ks.length = ms.length := by rw [hkv.len]; unfold kvD; rw [List.length_map]
    refine ⟨_, hm, a, o, rfl, .inl ⟨ks, S.hist.bh.at hB, k _ B H (.refl S.hist.bh) fun B1 H1 n e1 e2 => ?_⟩⟩
    have hH1 := e2.at (e1.at hB)
    rw [List.length_map, List.length_map]
    refine ⟨fun hn => ⟨⟨hH1, by omega⟩, fun x H' yl => ?_⟩, fun hn => ⟨hH1, by omega⟩⟩
    obtain ⟨rfl, kk, v, ek, rfl⟩ := yl
    obtain ⟨qq, eq, kq⟩ := dqkv_key hkv ek
    exact ⟨B1, .int qq.1, .refl e2, by rw [List.getElem?_map, List.getElem?_map, eq]; rfl, by rw [kq]; exact .int _⟩
  intro B0 H0 B H σ Q S q
  obtain ⟨v, hm, dv⟩ := S.slot e
  cases dv with
  | @dct a ks _ hr hkv =>
    rcases hr with hr | ⟨o, hr⟩
    · refine .inl ⟨a, .dK ks, S.hist.bh.at hr, True.intro, fun od => ?_⟩
      refine core _ _ _ _ σ _ a od ks (S.lock hr) hm upd_same (L2.DqKv.rd (rdTo_frz hr) _ _ hkv) fun l ws B' H' st nl bl hl da => ?_
      obtain ⟨z0, z1, z2⟩ := Stp.unlock S.hist.bh hr st
      have hla : l ≠ a := fun z => by subst z; rw [upd_same] at nl; cases nl
      refine ⟨z1, q l ws _ _ z2 (by rw [upd_ne hla] at nl; exact nl) (by rw [upd_ne hla]; exact bl) (by rw [upd_ne hla]; exact hl) (L2.DqAll.rd (rdTo_thaw z0) _ _ da)⟩
    · exact .inr (core B0 H0 B H σ Q a o ks S hm hr hkv q)
end
section
variable {P : Program} {w : World} {K : PySem.W.Frag} {mg : Str → Option Value} {base : Heap} {C : Addr}
theorem ok_wpRG {G : Type} {x qual : Str} {st : Stmt} {f : Addr} {fd : FuncData} {N ps : List Str} {k : Nat} {Pre : G → FsD → List D → Prop} {Post : G → D → Prop} (F : Fun K x qual st f fd) (S : FnScope N ps (defScope st)) (hN : ps.length ≤ N.length) (len : ∀ g fs ds, Pre g fs ds → 1 + ds.length = ps.length)
    (hb : ∀ (cdv : Value), fd.code = cdv → ∀ (A : Around) (outer : List Env) (s : Shared) (H : Hp) (E : XK), Room k (A.deeper (PyProof.Rows.envOfC qual (defScope st) s.heap.objs.size f cdv)) →
      ∃ t, PSs (cxOf CX0 P w K mg base N qual (defScope st) f cdv A outer s H E).nox (defBody st) t ∧ ∀ g fs ds, Pre g fs ds → WP K t { nx := fun _ => Post g .none, rt := fun d' => Post g d' } (startR N C fs ds)) : FnOk P w K mg base CX0 (k + 1) f fd ps (spRG K C Pre Post) := by
  refine F.okC S (fun vs H Q E h => ?_) (fun cdv hcv A outer s H vs Q E hr h => ?_)
  · obtain ⟨B, p, dx, ws, fs, us, ds, g, rfl, r, bh, hp, fw, hf, a, _⟩ := h
    rw [List.length_cons, a.len, ← len g fs ds r]; omega
  · obtain ⟨t, ht, q⟩ := hb cdv hcv A outer s H E hr
    refine ⟨t, ht, ?_⟩
    obtain ⟨B, p, dx, ws, fs, us, ds, g, rfl, r, bh, hp, fw, hf, a, hq⟩ := h
    refine q g fs ds r B H B H _ _ ⟨fun σ' H' B' δ' S' e => ?_, fun v B' H' d' hh dv e => ?_, fun _ _ _ _ _ z => z.elim, fun _ _ _ _ _ z => z.elim, fun _ _ _ _ _ _ _ _ _ _ z => z.elim, fun _ _ _ _ _ _ _ _ z => z.elim⟩ (start_sdR (by have := len g fs ds r; omega) bh hp fw hf a)
    · exact hq _ B' H' _ ⟨S'.hist.bb, S'.hist.bh, S'.hist.hh, S'.hist.fr⟩ .non e
    · exact hq v B' H' _ ⟨hh.bb, hh.bh, hh.hh, hh.fr⟩ dv e
/-- a def whose answer is a new list, with a ghost -/
def spNG {G : Type} (K : PySem.W.Frag) (Pre : G → List D → Prop) (Post : G → List D → Prop) : Sp := fun vs H Q _ => ∃ B ds g, Pre g ds ∧ Bh B H ∧ DqAll K B vs ds ∧ ∀ p ws B' H' es, Stp B H B' H' → H p = none → B' p = none → H' p = some (.lst ws) → DqAll K B' ws es → Post g es → Q (.ref p) H'
/-- xs = a keys' comprehension, locked -/
theorem wp_lkN {δ : List SV} {te : TE} {ds : List D} {E : EndsD} {i : Nat} (h : EN K (tLkE te) δ ds) (q : E.nx (δ.set i (.own (.l ds)))) : WP K (tLk (tAsg te (gName i))) E δ := fun B0 H0 B H σ D L S => by
  have := wp_asgN h q B0 H0 B H σ D L S
  rcases this with ⟨d, u, hd, mu, w⟩ | w
  · exact .inl ⟨d, u, hd, mu, fun od => w od⟩
  · exact .inr w
/-- an own list and a new one -/
theorem en_catOV {δ : List SV} {tb : TE} {ds es : List D} {i : Nat} (e : δ[i]? = some (.own (.l ds))) (hb : EN K tb δ es) (hl : ds.length + es.length ≤ sizeLine) : EN K (tOp (rCatA K) (tVar i) tb) δ (ds ++ es) := fun B0 H0 B H σ Q S q => by
  obtain ⟨p, vs, a1, _⟩ := S.slotOwn e
  refine ⟨_, a1, hb B0 H0 B H σ _ S fun p2 ws B2 H2 s2 n2 b2 e2 a2 => ?_⟩
  obtain ⟨p', vs', b1, hp, bp, h0, dp⟩ := (S.step s2).slotOwn e
  rw [a1] at b1; cases b1
  exact .inl ⟨p, p2, vs', ws, rfl, rfl, hp, e2, by rw [dp.len, a2.len]; exact hl, fun l hl => q l _ B2 _ (s2.trans (.newOwn s2.bh hl)) (s2.hh.free hl) (s2.bh.free hl) upd_same (dp.app a2)⟩
end
end DX

namespace LamK
open PySem L2 LamX PySem.Spec PyProof.Rows
/-! ### a lambda with one parameter, handed to min or max -/
structure LamOne (a : Str) (sc sco : Scope) : Prop where
  kind : sco.kind = .function
  co : sco.isCoroutine = false
  gen : sco.isGenerator = false
  own : ∀ nm ∈ sco.names, nm.2 ≠ .cell ∧ (nm.2 = .local → nm.1 = a)
  par : sco.names.lookup a = some .local
  free : ∀ nm ∈ sco.names, nm.2 = .free → sc.names.lookup nm.1 = some .cell ∨ sc.names.lookup nm.1 = some .free
def lamOneB (a : Str) (sc sco : Scope) : Bool :=
  decide (sco.kind = .function) && !sco.isCoroutine && !sco.isGenerator && decide (sco.names.lookup a = some .local) && sco.names.all fun nm => !decide (nm.2 = .cell) && (!decide (nm.2 = .local) || decide (nm.1 = a)) && (!decide (nm.2 = .free) || decide (sc.names.lookup nm.1 = some .cell) || decide (sc.names.lookup nm.1 = some .free))
theorem lamOne_by {a : Str} {sc sco : Scope} (h : lamOneB a sc sco = true) : LamOne a sc sco := by
  unfold lamOneB at h
  simp only [List.all_eq_true, decide_eq_true_eq, decide_eq_false_iff_not, Bool.not_eq_true', Bool.and_eq_true, Bool.or_eq_true] at h
  obtain ⟨⟨⟨⟨h1, h2⟩, h3⟩, h4⟩, h5⟩ := h
  refine ⟨h1, h2, h3, fun nm hy => ⟨(h5 nm hy).1.1, fun e => ?_⟩, h4, fun nm hy e => ?_⟩
  · rcases (h5 nm hy).1.2 with z | z
    · exact absurd e z
    · exact z
  · rcases (h5 nm hy).2 with (z | z) | z
    · exact absurd e z
    · exact .inl z
    · exact .inr z
theorem LamOne.has {X : Cx} {a : Str} {sco : Scope} (M1 : LamOne a X.env.scope sco) (ok : X.Ok) : ∀ nm ∈ sco.names, nm.2 = .free → ∃ c, X.env.cells.lookup nm.1 = some c := fun nm hy e => by
  rcases M1.free nm hy e with k | k
  · exact ok.has _ (.inl k)
  · exact ok.has _ (.inr k)
/-- the context of the lambda's what, entered at s from the frames out -/
def lamCtx (X : Cx) (A : Around) (out : List Env) (s : Shared) (H : Hp) (sco : Scope) (f c' : Addr) : Cx where
  prog := X.prog
  w := X.w
  K := X.K
  mg := X.mg
  base := X.base
  A := A.deeper (lamEnv X sco s.heap.objs.size f c')
  N := X.N
  s_0 := s
  H_0 := H
  env := lamEnv X sco s.heap.objs.size f c'
  outer := out
  stack := lamEnv X sco s.heap.objs.size f c' :: out
  ex := []
  fn := fun _ => false
  calm := true
  pn := []
  xe := fun e s' => wpAny (model X.prog X.w) (A.deeper (lamEnv X sco s.heap.objs.size f c')) (leaving (lamEnv X sco s.heap.objs.size f c') e) (fun _ s'' => False) (fun e' s'' => False) s'
section
variable {X : Cx} {pins : List (Addr × Obj)} {σ : L2.St} {s s1 : Shared} {H HZ : Hp}
theorem lam_enter {A : Around} {out : List Env} {sco : Scope} {f c' : Addr} {h₁ : Heap} {tk pi : Nat} {a : Str} {x : V} {u : Value} (I : Inv X pins σ H s) (M1 : LamOne a X.env.scope sco) (nd : X.N.Nodup) (hip : X.N[pi]? = some a) (rel : RelV x u) (ent : Env0 X.prog X.w X.K X.mg X.base A out s H) (hd : A.handled = none)
    (spaceOk : h₁.Ns s.heap.objs.size fun nm => ([(a, u)] : List (Str × Value)).reverse.lookup nm) (stays : ∀ b o, s.heap.get? b = some o → h₁.get? b = some o) :
    Inv (lamCtx X A out s H sco f c') [] (σ.set pi (some x)) H { s with heap := h₁, toks := tk } := by
  have hfr := M1.has I.ok
  have cellOf : ∀ {nm c}, (cloFrom X.env.cells sco.names []).lookup nm = some c → X.env.cells.lookup nm = some c := fun {nm c} e => by
    rcases cloFrom_mem (PySem.mem_of_lookup e) with old | ⟨h1, h2⟩
    · cases old
    · obtain ⟨q1, hc⟩ := hfr _ h1 rfl
      have hc : X.env.cells.lookup nm = some q1 := hc
      have e2 : c = q1 := by
        rw [h2, hc] <;> rfl
      rw [e2]
      exact hc
  have caught : ∀ {nm}, sco.names.lookup nm = some .free → ∃ c, (cloFrom X.env.cells sco.names []).lookup nm = some c := fun {nm} hl => by
    have hy : (nm, NameKind.free) ∈ sco.names := PySem.mem_of_lookup hl
    exact mem_lookup (cloFrom_has (acc := []) (cells := X.env.cells) hy)
  have cellStay : ∀ {c : Addr} {v : Option Value}, s.heap.IsCell c v → h₁.IsCell c v := fun {c v} ⟨o, ho, hd⟩ => ⟨o, stays _ _ ho, hd⟩
  have noEx : ∀ b : Addr, b ∉ (lamCtx X A out s H sco f c').ex := fun b z => absurd (show b ∈ ([] : List Addr) from z) (by simp)
  refine ⟨⟨ent.mod, M1.kind, rfl, rfl, Nat.le_refl _, fun nm z c e1 e2 => I.ok.inj nm z c (cellOf e1) (cellOf e2), fun nm hy => ?_, fun nm c z _ => ?_, fun _ => hd, Around.frames_deeper ent.frames, .inr ⟨rfl, rfl⟩, fun b z => absurd z (noEx b), ent.bs, ent.bsz, fun b _ _ => noEx b,
      fun b z => absurd z (noEx b), ent.funs, ent.frf⟩,
    rfl, ent.bare, Un.kept stays, ⟨_, spaceOk, fun i nm v e1 e2 e3 => ?_⟩, fun nm c e => ?_, ent.hok.fresh (Nat.le_refl _), fun nm c e => ?_, fun q hq => absurd (show q ∈ ([] : List (Addr × Obj)) ++ [] from hq) (by simp), ent.hok.kept stays, by rw [List.length_set]; exact I.len⟩
  · have hy : sco.names.lookup nm = some .cell ∨ sco.names.lookup nm = some .free := hy
    rcases hy with hy | hy
    · exact absurd rfl (M1.own _ (PySem.mem_of_lookup hy)).1
    · exact caught hy
  · have z : false = true := z
    cases z
  · have e3 : Vis sco nm := e3
    have e1 : X.N[i]? = some nm := e1
    rcases e3 with k | k | k
    · have ey : nm = a := (M1.own _ (PySem.mem_of_lookup k)).2 rfl
      subst ey
      have ei : pi = i := (List.getElem?_inj (List.getElem?_eq_some_iff.mp hip).1 nd).mp (hip.trans e1.symm)
      subst ei
      have hl : pi < σ.length := by rw [I.len]; exact (List.getElem?_eq_some_iff.mp hip).1
      rw [List.getElem?_set_self hl] at e2
      have e2 : x = v := Option.some.inj (Option.some.inj e2)
      subst e2
      exact ⟨u, rel, .inl ⟨k, by simp [List.lookup]⟩⟩
    · exact absurd rfl (M1.own _ (PySem.mem_of_lookup k)).1
    · have nya : nm ≠ a := fun z => by
        subst z
        have k : sco.names.lookup nm = some .free := k
        rw [M1.par] at k; cases k
      have nip : pi ≠ i := fun z => by
        subst z
        rw [hip] at e1
        exact nya (Option.some.inj e1).symm
      rw [List.getElem?_set_ne nip] at e2
      obtain ⟨m, hn, hl⟩ := I.loc
      have hvis : Vis X.env.scope nm := (M1.free _ (PySem.mem_of_lookup k) rfl).elim (fun k => .inr (.inl k)) (fun k => .inr (.inr k))
      obtain ⟨w', rel, q⟩ := hl i nm v e1 e2 hvis
      obtain ⟨q2, h2⟩ := caught k
      refine ⟨w', rel, .inr ⟨.inr k, q2, h2, ?_⟩⟩
      have q1 := cellOf h2
      rcases q with ⟨k', _⟩ | ⟨_, q3, e', z⟩
      · have k' : X.env.scope.names.lookup nm = some .local := k'
        rcases M1.free _ (PySem.mem_of_lookup k) rfl with k2 | k2 <;> rw [show X.env.scope.names.lookup nm = _ from k2] at k' <;> cases k'
      · rw [q1] at e'
        cases e'
        exact cellStay z
  · obtain ⟨w', z⟩ := I.cell nm c (cellOf e)
    exact ⟨w', cellStay z⟩
  · exact I.freeC nm c (cellOf e)
/-- the lambda is called -/
theorem lam_call {sco : Scope} {f c' : Addr} {md ctw : Value} {prs : Arguments} {what : Expr} {k pi : Nat} {a : Str} {x : V} {u : Value} {tb : TE} {Q : VK} {E : Value → Shared → Prop} (I : Inv X pins σ H s) (M1 : LamOne a X.env.scope sco) (nd : X.N.Nodup) (hip : X.N[pi]? = some a) (rel : RelV x u)
    (hf : s.heap.get? f = some (PySem.W.kla_obj "<lambda>" (X.env.qual ++ "<lambda>") prs what sco (cloFrom X.env.cells sco.names []) md c' ctw)) (hco : H c' = some (CodeO c' (X.env.qual ++ "<lambda>")))
    (hbind : bindArgs (PySem.W.kla_fn "<lambda>" (X.env.qual ++ "<lambda>") prs what sco (cloFrom X.env.cells sco.names []) md (.ref c') ctw) ⟨[u], []⟩ = pure [(a, u)])
    (hr : Room (k + 2) X.A) (hbody : ∀ (A : Around) (out : List Env) (s : Shared) (H : Hp), Room k (A.deeper (lamEnv X sco s.heap.objs.size f c')) → PE (lamCtx X A out s H sco f c') what tb)
    (ht : tb (σ.set pi (some x)) H Q) : wpAny (model X.prog X.w) X.A.in1 (call (.ref f) [u]) (fun r s' => ∃ v H', Inv X pins σ H' s' ∧ RelV v r ∧ Q v H' ∧ Un (frs X.stack) [] H H' s.heap s'.heap) E s := by
  have hr1 : Room (k + 1) X.A.in1 := hr.in1
  have ent : Env0 X.prog X.w X.K X.mg X.base X.A.in1 X.stack s H := I.env0.in1
  obtain ⟨⟨oc, vs, t, hoc, hdc, hvc⟩, _, _⟩ := I.hok c' _ hco
  have rc : codeAny (model X.prog X.w) X.A.in1 (.call (.ref f) ⟨[u], []⟩) (CR (fun _ _ _ _ _ _ => False) X.stack X.prog X.w H s Q (fun _ _ _ => False)) s := by
    refine PySem.W.kla_callFunE hr1.depth hf rfl M1.co M1.gen rfl ⟨c', oc, vs, t, rfl, hoc, hdc, hvc⟩ ?_
    rw [hbind]
    refine wpAny_pure (wpAny_newFunctionEnv (fun nm hy => (M1.own nm hy).1) (fun nm hy => by rw [List.mem_singleton.mp hy]; exact M1.par) (fun h₁ spaceOk hsb => ⟨I.nolimit.fresh _ hsb, ?_⟩) M1.kind)
    show codeAny _ _ (.expr what (lamEnv X sco s.heap.objs.size f c')) _ _
    have stays : ∀ b o, s.heap.get? b = some o → h₁.get? b = some o := fun b o e => hsb.extBut b o (Nat.ne_of_lt (Heap.lt_size e)) (Heap.get?_push_of_some _ e)
    have J : Inv (lamCtx X X.A.in1 X.stack s H sco f c') [] (σ.set pi (some x)) H { s with heap := h₁, toks := s.toks + ([(a, u)] : List (Str × Value)).length } :=
      lam_enter I M1 nd hip rel ent hr1.hd spaceOk stays
    refine PySem.W.kla_codeExpr (wpAny_mono ((hbody _ _ s H (hr1.deeper _)).run [] _ _ H Q J ht) (fun v s' hq => ?_) fun e s' hq => hq)
    obtain ⟨wv, Hn, Jn, rv, qq⟩ := hq
    exact ⟨wv, Hn, Jn.os, Jn.bare, Jn.base, Jn.hok, rv, qq⟩
  refine wpAny_call (codeAny_mono rc fun rel s2 hq => ?_)
  cases rel with
  | error e => exact (show False from hq).elim
  | ok fl =>
    cases fl with
    | ret u =>
      obtain ⟨v, H', os, bare, un, hok, r, q⟩ := hq
      obtain ⟨v2, H2, I2, r2, rfl, rfl⟩ := I.after (Q := fun v2 H2 => v2 = v ∧ H2 = H') ⟨v, H', os, bare, un, hok, r, rfl, rfl⟩
      exact ⟨_, _, I2, r2, q, un⟩
    | next => exact False.elim hq
    | brk => exact False.elim hq
    | cont => exact False.elim hq
theorem far_frs (I : Inv X pins σ H s) {g : Addr} (h : s.heap.objs.size ≤ g) : g ∉ frs X.stack := fun m => by
  rcases List.mem_cons.mp (I.stkSub _ m) with z | z
  · exact absurd (Nat.lt_of_lt_of_le I.lt h) (by rw [z]; exact Nat.lt_irrefl _)
  · exact I.nofs h z
theorem codeO_tbl {c : Addr} {q : Str} : NT (CodeO c q) := fun ps z => by
  unfold CodeO at z
  cases z
/-- the lambda's function is made -/
theorem lam_mk [G : TabEnv] {c P : Addr} {prs : Arguments} {what : Expr} {sco : Scope} {pos : Pos} {E Q : Value → Shared → Prop} (I : Inv X pins σ H s) (tb : TabsG H) (TB : TabB X.base X.mg c P) (hcode : X.env.code = .ref c) (hm : (P, X.env.qual ++ "<lambda>") ∈ G.T)
    (hdef : defaultsOf prs X.env = ([], [])) (hfr : ∀ n ∈ sco.names, n.2 = .free → ∃ z, X.env.cells.lookup n.1 = some z)
    (go : ∀ (f c' : Addr) (md ctw : Value) (H1 : Hp) (s1 : Shared), Inv X pins σ H1 s1 → Sam H H1 → TabsG H1 →
      s1.heap.get? f = some (PySem.W.kla_obj "<lambda>" (X.env.qual ++ "<lambda>") prs what sco (cloFrom X.env.cells sco.names []) md c' ctw) → H1 f = none → f ∉ frs X.stack → H1 c' = some (CodeO c' (X.env.qual ++ "<lambda>")) → Q (.ref f) s1) :
    wpAny (model X.prog X.w) X.A (eval (.Lambda prs what sco pos) X.env) Q E s := by
  obtain ⟨ps, hP, tr, codes⟩ := tb _ hm
  have hPs : s.heap.get? P = some { cls := .none, data := .fields ps } := I.hok P _ hP
  refine PySem.W.kla_eval hdef ?_
  cases seen : codeAmong pos ps.toList with
  | some cv =>
    obtain ⟨c', rfl, hco⟩ := codes pos cv seen
    refine PySem.W.kla_makeFunctionHit (mg := X.mg) (c := c) (P := P) (ps := ps) (closure_ok hfr) I.ok.glob (I.mod.glob.keeps I.bk) hcode (TB.code.keeps I.bk) hPs tr seen (TB.bm.keeps I.bk) fun ctw hh tk hx hz => ?_
    exact go _ c' _ ctw H _ (I.kept fun b o e => Heap.get?_push_of_some _ (hx b o e)) (Sam.refl H) tb (Heap.get?_push_size _ rfl) (I.hok.fresh hz) (far_frs I hz) hco
  | none =>
    refine PySem.W.kla_makeFunction (mg := X.mg) (c := c) (P := P) (ps := ps) (closure_ok hfr) I.ok.glob (I.mod.glob.keeps I.bk) hcode (TB.code.keeps I.bk) hPs tr seen TB.gP (TB.bm.keeps I.bk) fun c' ctw hh tk hx hge hlt rec ht => ?_
    obtain ⟨c2, oc, ws, t, e2, hoc, hd, hv⟩ := rec
    cases e2
    have hz : s.heap.objs.size ≤ hh.objs.size := Nat.le_trans hge (Nat.le_of_lt hlt)
    have fresh : H c' = none := I.hok.fresh hge
    have nPc : P ≠ c' := ne_of_none hP fresh
    have atP : upd (upd H P (.tbl (ps ++ #[rawInt pos.line, rawInt pos.col, .ref c']))) c' (CodeO c' (X.env.qual ++ "<lambda>")) P = some (.tbl (ps ++ #[rawInt pos.line, rawInt pos.col, .ref c'])) := by rw [upd_ne nPc, upd_same]
    have sam : Sam H (upd (upd H P (.tbl (ps ++ #[rawInt pos.line, rawInt pos.col, .ref c']))) c' (CodeO c' (X.env.qual ++ "<lambda>"))) := fun b o e => by
      by_cases hb : b = P
      · subst hb
        rw [hP] at e; cases e
        exact ⟨_, atP, fun n => absurd rfl (n ps)⟩
      · exact ⟨o, by rw [upd_ne (ne_of_none e fresh), upd_ne hb]; exact e, fun _ => rfl⟩
    refine go hh.objs.size c' _ ctw _ _ (inv_table (t' := tk) (more := #[rawInt pos.line, rawInt pos.col, .ref c']) I hP (fun b o hb e => Heap.get?_push_of_some _ (hx b o hb e)) (Heap.get?_push_of_some _ ht) hge ⟨oc, ws, t, Heap.get?_push_of_some _ hoc, hd, hv⟩) sam (fun q mq => ?_) (Heap.get?_push_size _ rfl) ?_ (far_frs I hz) upd_same
    · by_cases hq : q.1 = P
      · rw [G.un q mq _ hm hq, hq]
        have el : (ps ++ #[rawInt pos.line, rawInt pos.col, .ref c']).toList = ps.toList ++ [rawInt pos.line, rawInt pos.col, .ref c'] := by simp
        refine ⟨_, atP, by rw [el]; exact PySem.TriplesOk_snoc _ _ _ _ tr, fun p2 cv h2 => ?_⟩
        rw [el] at h2
        rcases among_app _ tr h2 with z | z
        · obtain ⟨z1, z2, z3⟩ := codes p2 cv z
          exact ⟨z1, z2, sam.at z3 codeO_tbl⟩
        · exact ⟨c', z, upd_same⟩
      · obtain ⟨ps2, e1, e2, e3⟩ := tb q mq
        refine ⟨ps2, by rw [upd_ne (ne_of_none e1 fresh), upd_ne hq]; exact e1, e2, fun p2 cv h2 => ?_⟩
        obtain ⟨z1, z2, z3⟩ := e3 p2 cv h2
        exact ⟨z1, z2, sam.at z3 codeO_tbl⟩
    · rw [upd_ne (Nat.ne_of_gt hlt), upd_ne (Nat.ne_of_gt (Nat.lt_of_lt_of_le (Heap.lt_size hPs) hz))]
      exact I.hok.fresh hz
end
end LamK

namespace LamK
open PySem L2 LamX PySem.Spec PyProof.Rows
/-! ### the walk over a list whose object may be written by equal values -/
theorem walks_vals {P : Program} {w : World} {A : Around} (hh : A.handled = none) (I ax : Addr) (hne : ax ≠ I) (xs : List V) :
    WalksS P w A I [I, ax] [I] (fun a b => b = a) xs.length (fun i v => ∃ y, xs[i]? = some y ∧ RelV y v) (fun i s => s.heap.IsListIter I ax i ∧ ∃ its : List Value, Vals xs its ∧ s.heap.IsList ax its.toArray) where
  sub := fun b mb => by simp at mb; simp [mb]
  grefl := fun _ => rfl
  gtrans := fun _ _ _ first then_ => then_.trans first
  frame := fun i s h' tk ⟨st, its, r, hl⟩ _ hk => by
    have W := Walks.list (prog := P) (w := w) (A := A) hh I ax hne its.toArray
    obtain ⟨a, b⟩ := W.frame i s.heap h' ⟨st, hl⟩ hk
    exact ⟨a, its, r, b⟩
  item := fun i s Q E hi ⟨st, its, r, hl⟩ hQ => by
    have W := (Walks.list (prog := P) (w := w) (A := A) hh I ax hne its.toArray).toS
    have hl2 := r.length
    refine W.item i s Q E (by rw [List.size_toArray]; omega) ⟨st, hl⟩ fun v s' hP st' hm => hQ v s' ?_ ⟨st'.1, its, r, st'.2⟩ hm
    have hv : its[i]? = some v := by simpa using hP
    obtain ⟨y, hy⟩ : ∃ y, xs[i]? = some y := ⟨_, List.getElem?_eq_getElem hi⟩
    obtain ⟨uu, hu, ru⟩ := r.get hy
    rw [hv] at hu
    cases hu
    exact ⟨y, hy, ru⟩
  done := fun s Q E ⟨st, its, r, hl⟩ hQ => by
    have W := (Walks.list (prog := P) (w := w) (A := A) hh I ax hne its.toArray).toS
    have hl2 := r.length
    exact W.done s Q E (by rw [List.size_toArray, ← hl2]; exact ⟨st, hl⟩) hQ
  self := fun i s Q E ⟨st, its, r, hl⟩ h => by
    have W := (Walks.list (prog := P) (w := w) (A := A) hh I ax hne its.toArray).toS
    exact W.self i s Q E ⟨st, hl⟩ h
section
variable {X : Cx} {pins : List (Addr × Obj)} {σ : L2.St} {s s1 : Shared} {H HZ : Hp}
/-- what a key does, called for each of xs in turn: W stays, the answers are the ms -/
structure KeyW (K : PySem.W.Frag) (tk : TE) (pi : Nat) (σ : L2.St) (a : Addr) (xs : List V) (ms : Nat → Int) (W : Hp → Prop) : Prop where
  seq : ∀ H', W H' → SqL K H' a xs
  key : ∀ (i : Nat) (x : V) (H' : Hp), xs[i]? = some x → W H' → tk (σ.set pi (some x)) H' fun r H'' => r = .int (ms i) ∧ W H''
/-- what stays while the key is asked -/
structure KeyJ (X : Cx) (pins : List (Addr × Obj)) (σ : L2.St) (W : Hp → Prop) (f I0 S : Addr) (fo : Obj) (s : Shared) : Prop where
  ex : ∃ H', Inv X pins σ H' s ∧ W H' ∧ H' f = none ∧ H' I0 = none ∧ H' S = none
  fo : s.heap.get? f = some fo
theorem keyrun {op : CmpOp} {bt : Nat → Nat → Bool} {sco : Scope} {f c' I0 S ax : Addr} {md ctw : Value} {prs : Arguments} {what : Expr} {k pi : Nat} {a : Str} {tk : TE} {xs : List V} {ms : Nat → Int} {W : Hp → Prop} (M1 : LamOne a X.env.scope sco) (nd : X.N.Nodup) (hip : X.N[pi]? = some a)
    (hc : CmpOf X.prog X.w X.A.in1 op (fun i v => ∃ t, v = .int (ms i) t) bt)
    (hbind : ∀ u : Value, bindArgs (PySem.W.kla_fn "<lambda>" (X.env.qual ++ "<lambda>") prs what sco (cloFrom X.env.cells sco.names []) md (.ref c') ctw) ⟨[u], []⟩ = pure [(a, u)])
    (hr : Room (k + 2) X.A) (hbody : ∀ (A : Around) (out : List Env) (s : Shared) (H : Hp), Room k (A.deeper (lamEnv X sco s.heap.objs.size f c')) → PE (lamCtx X A out s H sco f c') what tk)
    (kw : KeyW X.K tk pi σ ax xs ms W) (hW : ∀ H', W H' → H' c' = some (CodeO c' (X.env.qual ++ "<lambda>"))) (stI : ∀ H', H' I0 = none → FpOk X pins H' I0) (stS : ∀ H', H' S = none → FpOk X pins H' S) (nfI : f ≠ I0) (nfS : f ≠ S) (ffr : f ∉ frs X.stack) (Ifr : I0 ∉ frs X.stack) (Sfr : S ∉ frs X.stack) :
    KeyRun X.prog X.w X.A.in1 (.ref f) op S [I0] (fun a b => b = a) xs.length (fun i v => ∃ y, xs[i]? = some y ∧ RelV y v) (fun i s => s.heap.IsListIter I0 ax i ∧ ∃ its : List Value, Vals xs its ∧ s.heap.IsList ax its.toArray)
      (KeyJ X pins σ W f I0 S (PySem.W.kla_obj "<lambda>" (X.env.qual ++ "<lambda>") prs what sco (cloFrom X.env.cells sco.names []) md c' ctw)) (fun i v _ => ∃ t, v = .int (ms i) t) bt where
  keep := fun s s' J m => by
    obtain ⟨⟨H', I, w, n1, n3, n4⟩, hf⟩ := J
    obtain ⟨hh, g, d, tt, os'⟩ := s'
    obtain ⟨mh, mg, md, mo, mt⟩ := m
    have mg : g = s.gens := mg
    have md : d = s.drawn := md
    have mo : os' = s.os := mo
    subst mg md mo
    refine ⟨⟨H', I.turnedL (t' := tt) (ch := [S, I0]) (fun b o hb e => mh b o hb e) (fun b hb => ?_), w, n1, n3, n4⟩, mh f _ (by simp [nfI, nfS]) hf⟩
    rcases List.mem_cons.mp hb with z | z
    · rw [z]; exact stS H' n4
    · rw [List.mem_singleton.mp z]; exact stI H' n3
  keepV := fun i k s s' h _ => h
  turn := fun i v s o Q E hi hP J hst hS hQ => by
    obtain ⟨y, hy, ry⟩ := hP
    obtain ⟨⟨H', I, w, n1, n3, n4⟩, hf⟩ := J
    refine wpAny_mono (lam_call (Q := fun r H'' => r = .int (ms i) ∧ W H'') I M1 nd hip ry hf (hW H' w) (hbind v) hr hbody (kw.key i y H' hy w)) (fun r s' hq => ?_) fun _ _ z => z
    obtain ⟨r', H'', I'', rr, ⟨rfl, w'⟩, un⟩ := hq
    obtain ⟨t, rfl⟩ := rr
    obtain ⟨io, hio, hi2⟩ := hst.1
    have hf' := un.keep f _ hf n1 ffr (by simp)
    have hI' := un.keep I0 _ hio n3 Ifr (by simp)
    have hS' := un.keep S _ hS n4 Sfr (by simp)
    obtain ⟨its, rv, pl, hz⟩ := I''.list (kw.seq H'' w')
    exact hQ _ s' ⟨⟨H'', I'', w', un.free f _ hf n1 (by simp), un.free I0 _ hio n3 (by simp), un.free S _ hS n4 (by simp)⟩, hf'⟩ ⟨⟨io, hI', hi2⟩, its, rv, pl.isList⟩ hS' ⟨t, rfl⟩ fun _ _ z => z
  cmp := fun i j ki kj s Q E _ h1 h2 hq => hc i j ki kj s Q E h1 h2 hq
/-- the walk is begun -/
theorem keyed {op : CmpOp} {bt : Nat → Nat → Bool} {sco : Scope} {f c' ax : Addr} {md ctw : Value} {prs : Arguments} {what : Expr} {k pi : Nat} {a : Str} {tk : TE} {xs : List V} {ms : Nat → Int} {W : Hp → Prop} {Q : Value → Shared → Prop} {E : Value → Shared → Prop}
    (I : Inv X pins σ H s) (M1 : LamOne a X.env.scope sco) (nd : X.N.Nodup) (hip : X.N[pi]? = some a) (hc : CmpOf X.prog X.w X.A.in1 op (fun i v => ∃ t, v = .int (ms i) t) bt)
    (hbind : ∀ u : Value, bindArgs (PySem.W.kla_fn "<lambda>" (X.env.qual ++ "<lambda>") prs what sco (cloFrom X.env.cells sco.names []) md (.ref c') ctw) ⟨[u], []⟩ = pure [(a, u)])
    (hr : Room (k + 2) X.A) (hbody : ∀ (A : Around) (out : List Env) (s : Shared) (H : Hp), Room k (A.deeper (lamEnv X sco s.heap.objs.size f c')) → PE (lamCtx X A out s H sco f c') what tk)
    (kw : KeyW X.K tk pi σ ax xs ms W) (hW : ∀ H', W H' → H' c' = some (CodeO c' (X.env.qual ++ "<lambda>"))) (w : W H) (ffr : f ∉ frs X.stack) (nf : H f = none)
    (hf : s.heap.get? f = some (PySem.W.kla_obj "<lambda>" (X.env.qual ++ "<lambda>") prs what sco (cloFrom X.env.cells sco.names []) md c' ctw))
    (R : ∀ (I0 : Addr) (s2 : Shared) (St : Nat → Shared → Prop) (J : Shared → Prop), WalksS X.prog X.w X.A.in1 I0 [I0, ax] [I0] (fun a b => b = a) xs.length (fun i v => ∃ y, xs[i]? = some y ∧ RelV y v) St → St 0 s2 → (∀ b ∈ [I0, ax], b < s2.heap.objs.size) →
      KeyRun X.prog X.w X.A.in1 (.ref f) op s2.heap.objs.size [I0] (fun a b => b = a) xs.length (fun i v => ∃ y, xs[i]? = some y ∧ RelV y v) St J (fun i v _ => ∃ t, v = .int (ms i) t) bt → J s2 → (∀ s', J s' → ∃ H', Inv X pins σ H' s' ∧ W H') → Q (.ref I0) s2) :
    wpAny (model X.prog X.w) X.A.in1 (pyIter (.ref ax)) Q E s := by
  obtain ⟨its, rv, pl, hz⟩ := I.list (kw.seq H w)
  have hax : ax < s.heap.objs.size := by
    obtain ⟨o, n, ho, _⟩ := pl
    exact Heap.lt_size ho
  refine wpAny_pyIter_list pl.isList ?_
  have stay : ∀ b o, s.heap.get? b = some o → (s.heap.push { cls := .type "list_iterator", data := .fields #[.ref ax, .int 0 0] }).get? b = some o := fun b o e => Heap.get?_push_of_some _ e
  have I1 : Inv X pins σ H { s with heap := s.heap.push { cls := .type "list_iterator", data := .fields #[.ref ax, .int 0 0] }, toks := s.toks } := I.kept stay
  have hsz : (s.heap.push { cls := .type "list_iterator", data := .fields #[.ref ax, .int 0 0] }).objs.size = s.heap.objs.size + 1 := size_push' ..
  have lf := Heap.lt_size hf
  have n0 : H s.heap.objs.size = none := I.hok.fresh (Nat.le_refl _)
  have n1 : H (s.heap.objs.size + 1) = none := I.hok.fresh (Nat.le_succ _)
  refine R s.heap.objs.size _ _ _ (walks_vals (A := X.A.in1) hr.in1.hd s.heap.objs.size ax (Nat.ne_of_lt hax) xs) ⟨⟨_, Heap.get?_push_size _ rfl, rfl, rfl⟩, its, rv, pl.isList.at fun o e => stay _ _ e⟩ (fun b hb => ?_)
    (keyrun (S := (s.heap.push { cls := .type "list_iterator", data := .fields #[.ref ax, .int 0 0] }).objs.size) (pins := pins) M1 nd hip hc hbind hr hbody kw hW (fun H' h => I.fpOk (Nat.le_refl _) h) (fun H' h => I.fpOk (by rw [hsz]; exact Nat.le_succ _) h) (Nat.ne_of_lt lf) (by rw [hsz]; exact Nat.ne_of_lt (Nat.lt_succ_of_lt lf)) ffr (far_frs I (Nat.le_refl _)) (far_frs I (by rw [hsz]; exact Nat.le_succ _)))
    ⟨⟨H, I1, w, nf, n0, by rw [hsz]; exact n1⟩, stay _ _ hf⟩ fun s' J => ?_
  · show b < (s.heap.push _).objs.size
    rw [hsz]
    rcases List.mem_cons.mp hb with z | z
    · rw [z]; exact Nat.lt_succ_self _
    · rw [List.mem_singleton.mp z]; exact Nat.lt_succ_of_lt hax
  · obtain ⟨⟨H', I', w', _⟩, _⟩ := J
    exact ⟨H', I', w'⟩
/-- min, max of a list by a key -/
def tKeyB [TabEnv] (K : PySem.W.Frag) (lt : Int → Int → Bool) (pi : Nat) (ta tk : TE) : TE := fun σ H Q => ta σ H fun v H1 => TabsG H1 ∧ ∃ a, v = .ref a ∧ ∀ H2, Sam H1 H2 → TabsG H2 → ∃ (xs : List V) (ms : Nat → Int) (W : Hp → Prop), (∀ H', W H' → Sam H2 H') ∧ W H2 ∧ 0 < xs.length ∧ KeyW K tk pi σ a xs ms W ∧
  ∀ H' x, W H' → xs[argBest (fun i j => lt (ms i) (ms j)) (xs.length - 1)]? = some x → Q x H'
/-- .. with default=None -/
def tKeyBD [TabEnv] (K : PySem.W.Frag) (lt : Int → Int → Bool) (pi : Nat) (ta tk : TE) : TE := fun σ H Q => ta σ H fun v H1 => TabsG H1 ∧ ∃ a, v = .ref a ∧ ∀ H2, Sam H1 H2 → TabsG H2 → ∃ (xs : List V) (ms : Nat → Int) (W : Hp → Prop), (∀ H', W H' → Sam H2 H') ∧ W H2 ∧ KeyW K tk pi σ a xs ms W ∧
  (∀ H', xs = [] → W H' → Q .non H') ∧ ∀ H' x, W H' → xs[argBest (fun i j => lt (ms i) (ms j)) (xs.length - 1)]? = some x → Q x H'
def ltB (a b : Int) : Bool := decide (a < b)
def gtB (a b : Int) : Bool := decide (a > b)
section
variable [G : TabEnv] {e : Expr} {ta tk : TE} {c P : Addr} {prs : Arguments} {what : Expr} {sco : Scope} {p pos lpos kpos : Pos} {k pi : Nat} {a : Str}
theorem pe_minK (hg : Gl X "min") (hm : X.mg "min" = none) (he : PE X e ta) (TB : TabB X.base X.mg c P) (hcode : X.env.code = .ref c) (hmT : (P, X.env.qual ++ "<lambda>") ∈ G.T) (M1 : LamOne a X.env.scope sco) (nd : X.N.Nodup) (hip : X.N[pi]? = some a) (hr : Room (k + 2) X.A)
    (hbind : ∀ (md ctw u : Value) (c' : Addr), bindArgs (PySem.W.kla_fn "<lambda>" (X.env.qual ++ "<lambda>") prs what sco (cloFrom X.env.cells sco.names []) md (.ref c') ctw) ⟨[u], []⟩ = pure [(a, u)])
    (hbody : ∀ (A : Around) (out : List Env) (s : Shared) (H : Hp) (f c' : Addr), Room k (A.deeper (lamEnv X sco s.heap.objs.size f c')) → PE (lamCtx X A out s H sco f c') what tk) (hdef : defaultsOf prs X.env = ([], []) := by rfl)
    (hst : backTo pos (starEach [e] X.env) = (false, eval e X.env) :: backTo pos (starEach [] X.env) := by rfl) :
    PE X (.Call (.Name "min" p) [e] [⟨some "key", .Lambda prs what sco lpos, kpos⟩] pos) (tKeyB X.K ltB pi ta tk) := by
  refine ⟨fun pins s σ H Q I h => ?_⟩
  refine wpAny_Call_Name_kw (ld_blt I hg hm (by rfl) ?_)
  refine PyProof.Rows.callWith_kw ?_ hst (by rw [hst]; rfl)
  rw [hst]
  refine Calls.spliced_cons (thn (he.run pins s σ H _ I h) fun u s1 ⟨v, H1, I1, r1, tb, ax, ev, q⟩ => Calls.spliced_nil ?_)
  subst ev
  cases r1
  refine wpAny_evalAll_cons (wpAny_bind (lam_mk I1 tb TB hcode hmT hdef (M1.has I1.ok) fun f c' md ctw H2 s2 I2 sam tb2 hf nf ffr hco => wpAny_bind (wpAny_standAt (wpAny_pure (wpAny_evalAll_nil ?_)))))
  obtain ⟨xs, ms, W, hW, w, h0, kw, fin⟩ := q H2 sam tb2
  refine call_min_walkK (keyed I2 M1 nd hip (CmpOf.ints_lt ms fun i v h => h) (hbind md ctw · c') hr (fun A out s H => hbody A out s H f c') kw (fun H' w => (hW H' w).at hco codeO_tbl) w ffr nf hf fun I0 s3 St J Wk st fp kr j back => ?_)
  refine ⟨I0, _, _, _, _, _, St, J, _, _, rfl, Wk, st, fp, h0, kr, j, fun v s' ⟨y, hy, ry⟩ js => ?_⟩
  obtain ⟨H', I', w'⟩ := back s' js
  exact ⟨y, H', I', ry, fin H' y w' hy⟩
theorem pe_maxK (hg : Gl X "max") (hm : X.mg "max" = none) (he : PE X e ta) (TB : TabB X.base X.mg c P) (hcode : X.env.code = .ref c) (hmT : (P, X.env.qual ++ "<lambda>") ∈ G.T) (M1 : LamOne a X.env.scope sco) (nd : X.N.Nodup) (hip : X.N[pi]? = some a) (hr : Room (k + 2) X.A)
    (hbind : ∀ (md ctw u : Value) (c' : Addr), bindArgs (PySem.W.kla_fn "<lambda>" (X.env.qual ++ "<lambda>") prs what sco (cloFrom X.env.cells sco.names []) md (.ref c') ctw) ⟨[u], []⟩ = pure [(a, u)])
    (hbody : ∀ (A : Around) (out : List Env) (s : Shared) (H : Hp) (f c' : Addr), Room k (A.deeper (lamEnv X sco s.heap.objs.size f c')) → PE (lamCtx X A out s H sco f c') what tk) (hdef : defaultsOf prs X.env = ([], []) := by rfl)
    (hst : backTo pos (starEach [e] X.env) = (false, eval e X.env) :: backTo pos (starEach [] X.env) := by rfl) :
    PE X (.Call (.Name "max" p) [e] [⟨some "key", .Lambda prs what sco lpos, kpos⟩] pos) (tKeyB X.K gtB pi ta tk) := by
  refine ⟨fun pins s σ H Q I h => ?_⟩
  refine wpAny_Call_Name_kw (ld_blt I hg hm (by rfl) ?_)
  refine PyProof.Rows.callWith_kw ?_ hst (by rw [hst]; rfl)
  rw [hst]
  refine Calls.spliced_cons (thn (he.run pins s σ H _ I h) fun u s1 ⟨v, H1, I1, r1, tb, ax, ev, q⟩ => Calls.spliced_nil ?_)
  subst ev
  cases r1
  refine wpAny_evalAll_cons (wpAny_bind (lam_mk I1 tb TB hcode hmT hdef (M1.has I1.ok) fun f c' md ctw H2 s2 I2 sam tb2 hf nf ffr hco => wpAny_bind (wpAny_standAt (wpAny_pure (wpAny_evalAll_nil ?_)))))
  obtain ⟨xs, ms, W, hW, w, h0, kw, fin⟩ := q H2 sam tb2
  refine call_max_walkK (keyed I2 M1 nd hip (CmpOf.ints_gt ms fun i v h => h) (hbind md ctw · c') hr (fun A out s H => hbody A out s H f c') kw (fun H' w => (hW H' w).at hco codeO_tbl) w ffr nf hf fun I0 s3 St J Wk st fp kr j back => ?_)
  refine ⟨I0, _, _, _, _, _, St, J, _, _, rfl, Wk, st, fp, h0, kr, j, fun v s' ⟨y, hy, ry⟩ js => ?_⟩
  obtain ⟨H', I', w'⟩ := back s' js
  exact ⟨y, H', I', ry, fin H' y w' hy⟩
theorem pe_maxKD {jn} {npos dpos : Pos} (hg : Gl X "max") (hm : X.mg "max" = none) (he : PE X e ta) (TB : TabB X.base X.mg c P) (hcode : X.env.code = .ref c) (hmT : (P, X.env.qual ++ "<lambda>") ∈ G.T) (M1 : LamOne a X.env.scope sco) (nd : X.N.Nodup) (hip : X.N[pi]? = some a) (hr : Room (k + 2) X.A)
    (hbind : ∀ (md ctw u : Value) (c' : Addr), bindArgs (PySem.W.kla_fn "<lambda>" (X.env.qual ++ "<lambda>") prs what sco (cloFrom X.env.cells sco.names []) md (.ref c') ctw) ⟨[u], []⟩ = pure [(a, u)])
    (hbody : ∀ (A : Around) (out : List Env) (s : Shared) (H : Hp) (f c' : Addr), Room k (A.deeper (lamEnv X sco s.heap.objs.size f c')) → PE (lamCtx X A out s H sco f c') what tk) (hdef : defaultsOf prs X.env = ([], []) := by rfl)
    (hst : backTo pos (starEach [e] X.env) = (false, eval e X.env) :: backTo pos (starEach [] X.env) := by rfl) :
    PE X (.Call (.Name "max" p) [e] [⟨some "key", .Lambda prs what sco lpos, kpos⟩, ⟨some "default", .Constant .none jn npos, dpos⟩] pos) (tKeyBD X.K gtB pi ta tk) := by
  refine ⟨fun pins s σ H Q I h => ?_⟩
  refine wpAny_Call_Name_kw (ld_blt I hg hm (by rfl) ?_)
  refine PyProof.Rows.callWith_kw ?_ hst (by rw [hst]; rfl)
  rw [hst]
  refine Calls.spliced_cons (thn (he.run pins s σ H _ I h) fun u s1 ⟨v, H1, I1, r1, tb, ax, ev, q⟩ => Calls.spliced_nil ?_)
  subst ev
  cases r1
  refine wpAny_evalAll_cons (wpAny_bind (lam_mk I1 tb TB hcode hmT hdef (M1.has I1.ok) fun f c' md ctw H2 s2 I2 sam tb2 hf nf ffr hco => wpAny_bind (wpAny_standAt (wpAny_pure (wpAny_evalAll_cons (wpAny_bind (Constant_none (wpAny_bind (wpAny_standAt (wpAny_pure (wpAny_evalAll_nil ?_)))))))))))
  obtain ⟨xs, ms, W, hW, w, kw, zero, fin⟩ := q H2 sam tb2
  refine call_max_walkKD (keyed I2 M1 nd hip (CmpOf.ints_gt ms fun i v h => h) (hbind md ctw · c') hr (fun A out s H => hbody A out s H f c') kw (fun H' w => (hW H' w).at hco codeO_tbl) w ffr nf hf fun I0 s3 St J Wk st fp kr j back => ?_)
  refine ⟨I0, _, _, _, _, _, St, J, _, _, rfl, Wk, st, fp, kr, j, fun hn s' js => ?_, fun hn v s' ⟨y, hy, ry⟩ js => ?_⟩
  · obtain ⟨H', I', w'⟩ := back s' js
    exact ⟨.non, H', I', rfl, zero H' (List.length_eq_zero_iff.mp hn) w'⟩
  · obtain ⟨H', I', w'⟩ := back s' js
    exact ⟨y, H', I', ry, fin H' y w' hy⟩
end
end
end LamK

namespace DX
open PySem L2 LamK
variable [TabEnv]
/-! ### the least and the greatest by a key -/
section
variable {K : PySem.W.Frag} {B0 H0 B H B' H' : Hp} {σ : L2.St} {δ δ' : List SV} {ta tb te tk : TE} {d x y : D} {ds es xs : List D} {i m pi : Nat} {lt : Int → Int → Bool} {ms : Nat → Int}
theorem Stp.tabs {H2 : Hp} (bh : Bh B H) (sam : Sam H H2) (tb : TabsG H2) : Stp B H B H2 := ⟨Sam.refl _, ⟨bh.sm.trans sam, tb⟩, sam, fun _ _ z => z⟩
theorem keyW_of {a : Addr} {vs : List V} {H2 : Hp} (S : Sd K B0 H0 B H2 σ δ) (hs : ∀ B' H', Stp B H2 B' H' → SqL K H' a vs) (hv : DqAll K B vs xs) (hk : ∀ i x, xs[i]? = some x → ED K tk (δ.set pi (.val x)) (.int (ms i))) :
    KeyW K tk pi σ a vs ms fun H' => ∃ B', Stp B H2 B' H' where
  seq := fun H' ⟨B', s⟩ => hs B' H' s
  key := fun i v H' hi ⟨B', s⟩ => by
    obtain ⟨d, hd, dv⟩ := hv.getV hi
    refine hk i d hd B0 H0 B' H' _ _ ((S.step s).setVal (Dq.up s.bb _ _ dv)) fun r B'' H'' s2 dr => ?_
    exact ⟨Dq.int_inv dr, B'', s.trans s2⟩
/-- of a list that is known -/
theorem ed_keyB (hx : ED K ta δ (.list xs)) (h0 : 0 < xs.length) (hk : ∀ i x, xs[i]? = some x → ED K tk (δ.set pi (.val x)) (.int (ms i))) (e : xs[argBest (fun i j => lt (ms i) (ms j)) (xs.length - 1)]? = some d) : ED K (tKeyB K lt pi ta tk) δ d := fun B0 H0 B H σ Q S q =>
  hx B0 H0 B H σ _ S fun v B1 H1 s1 dv => by
    cases dv with
    | @lst a vs _ hs hv =>
      refine ⟨s1.bh.tb, a, rfl, fun H2 sam tb => ?_⟩
      have st := Stp.tabs s1.bh sam tb
      refine ⟨vs, ms, _, fun H' ⟨B', s⟩ => s.hh, ⟨B1, .refl st.bh⟩, by rw [hv.len]; exact h0, keyW_of ((S.step s1).step st) (fun B' H' s => s.bh.seq (s.bb.seq hs)) hv hk, fun H' x ⟨B', s⟩ hx => ?_⟩
      rw [hv.len] at hx
      obtain ⟨d', hd, dv⟩ := hv.getV hx
      rw [e] at hd; cases hd
      exact q x B' H' ((s1.trans st).trans s) (Dq.up s.bb _ _ dv)
/-- of a list that is this frame's own -/
theorem ed_keyOwn (hx : δ[m]? = some (.own (.l xs))) (h0 : 0 < xs.length) (hk : ∀ i x, xs[i]? = some x → ED K tk (δ.set pi (.val x)) (.int (ms i))) (e : xs[argBest (fun i j => lt (ms i) (ms j)) (xs.length - 1)]? = some d) : ED K (tKeyB K lt pi (tVar m) tk) δ d := fun B0 H0 B H σ Q S q => by
  obtain ⟨a, vs, a1, hp, bp, h0', hv⟩ := S.slotOwn hx
  refine ⟨_, a1, S.hist.bh.tb, a, rfl, fun H2 sam tb => ?_⟩
  have st := Stp.tabs S.hist.bh sam tb
  refine ⟨vs, ms, _, fun H' ⟨B', s⟩ => s.hh, ⟨B, .refl st.bh⟩, by rw [hv.len]; exact h0, keyW_of (S.step st) (fun B' H' s => .inl (.inl (s.hh.at (sam.at hp)))) hv hk, fun H' x ⟨B', s⟩ hx => ?_⟩
  rw [hv.len] at hx
  obtain ⟨d', hd, dv⟩ := hv.getV hx
  rw [e] at hd; cases hd
  exact q x B' H' (st.trans s) (Dq.up s.bb _ _ dv)
theorem ed_keyOwnD (hx : δ[m]? = some (.own (.l xs))) (hk : ∀ i x, xs[i]? = some x → ED K tk (δ.set pi (.val x)) (.int (ms i))) (e0 : xs = [] → d = .none) (e : xs ≠ [] → xs[argBest (fun i j => lt (ms i) (ms j)) (xs.length - 1)]? = some d) : ED K (tKeyBD K lt pi (tVar m) tk) δ d := fun B0 H0 B H σ Q S q => by
  obtain ⟨a, vs, a1, hp, bp, h0', hv⟩ := S.slotOwn hx
  refine ⟨_, a1, S.hist.bh.tb, a, rfl, fun H2 sam tb => ?_⟩
  have st := Stp.tabs S.hist.bh sam tb
  refine ⟨vs, ms, _, fun H' ⟨B', s⟩ => s.hh, ⟨B, .refl st.bh⟩, keyW_of (S.step st) (fun B' H' s => .inl (.inl (s.hh.at (sam.at hp)))) hv hk, fun H' z ⟨B', s⟩ => ?_, fun H' x ⟨B', s⟩ hx => ?_⟩
  · subst z
    have : xs = [] := List.length_eq_zero_iff.mp hv.len.symm
    rw [e0 this] at q
    exact q .non B' H' (st.trans s) .non
  · rw [hv.len] at hx
    obtain ⟨d', hd, dv⟩ := hv.getV hx
    rw [e (fun z => by rw [z] at hd; cases hd)] at hd; cases hd
    exact q x B' H' (st.trans s) (Dq.up s.bb _ _ dv)
end
/-- the first that is best -/
theorem best_at {lt : Nat → Nat → Bool} (tr : ∀ a b c, lt a b = false → lt b c = false → lt a c = false) (irr : ∀ a, lt a a = false) (as : ∀ a b, lt a b = true → lt b a = false) : ∀ n, argBest lt n ≤ n ∧ ∀ i, i ≤ n → lt i (argBest lt n) = false
  | 0 => ⟨Nat.le_refl _, fun i hi => by
      have : i = 0 := by omega
      rw [this]; exact irr _⟩
  | n + 1 => by
    obtain ⟨h1, h2⟩ := best_at tr irr as n
    unfold argBest
    by_cases h : lt (n + 1) (argBest lt n) = true
    · rw [if_pos h]
      refine ⟨Nat.le_refl _, fun i hi => ?_⟩
      by_cases z : i = n + 1
      · rw [z]; exact irr _
      · exact tr _ _ _ (h2 i (by omega)) (as _ _ h)
    · rw [if_neg h]
      refine ⟨by omega, fun i hi => ?_⟩
      by_cases z : i = n + 1
      · rw [z]; exact Bool.eq_false_iff.mpr h
      · exact h2 i (by omega)
theorem least_at (ms : Nat → Int) (n : Nat) : argBest (fun i j => ltB (ms i) (ms j)) n ≤ n ∧ ∀ i, i ≤ n → ms (argBest (fun i j => ltB (ms i) (ms j)) n) ≤ ms i := by
  obtain ⟨h1, h2⟩ := best_at (lt := fun i j => ltB (ms i) (ms j)) (fun a b c h h' => by unfold ltB at *; rw [decide_eq_false_iff_not] at *; omega) (fun a => by unfold ltB; rw [decide_eq_false_iff_not]; omega) (fun a b h => by unfold ltB at *; rw [decide_eq_true_eq] at h; rw [decide_eq_false_iff_not]; omega) n
  refine ⟨h1, fun i hi => ?_⟩
  have := h2 i hi
  unfold ltB at this
  rw [decide_eq_false_iff_not] at this
  exact Int.not_lt.mp this
theorem most_at (ms : Nat → Int) (n : Nat) : argBest (fun i j => gtB (ms i) (ms j)) n ≤ n ∧ ∀ i, i ≤ n → ms i ≤ ms (argBest (fun i j => gtB (ms i) (ms j)) n) := by
  obtain ⟨h1, h2⟩ := best_at (lt := fun i j => gtB (ms i) (ms j)) (fun a b c h h' => by unfold gtB at *; rw [decide_eq_false_iff_not] at *; omega) (fun a => by unfold gtB; rw [decide_eq_false_iff_not]; omega) (fun a b h => by unfold gtB at *; rw [decide_eq_true_eq] at h; rw [decide_eq_false_iff_not]; omega) n
  refine ⟨h1, fun i hi => ?_⟩
  have := h2 i hi
  unfold gtB at this
  rw [decide_eq_false_iff_not] at this
  exact Int.not_lt.mp this
end DX

namespace DX
open PySem L2
/-- the table of the code object at c, as K tells it -/
def tabAt (K : PySem.W.Frag) (c : Addr) : Addr := match K.lookup c with
  | some ⟨_, _, .fields vs, _⟩ => (match (vs[11]? : Option Value) with
    | some (.ref P) => P
    | _ => 0)
  | _ => 0
theorem lawAtS_of {l : PySem.W.OpenLaw} {w : World} {K : PySem.W.Frag} {k : Nat} {x : Str} {mg : Str → Option Value} {fa : Addr} {h : Heap} {cs : List (Addr × Addr)} {fd : FuncData} {R : List D → D → Prop} (E : TabEnv) (hE : ∀ p ∈ E.T, ∃ q ∈ cs, q.2 = p.1)
    (hT : ∀ p ∈ cs, h.get? p.2 = some { cls := .none, data := .fields #[] }) (nT : ∀ p ∈ cs, K.lookup p.2 = none) (hc : ∀ p ∈ cs, PySem.W.codeHdIn K p.1 p.2 = true) (KX : K.In h) (hb : ∀ (s : Shared) (u : Value), BindsTo s fd ⟨[u], []⟩ [(x, u)])
    (hR : ∀ ns : List Int, ns.length ≤ 63 → R [.list (ns.map PyData.int)] (.bool true)) (F : ∀ base : Heap, K.In base → base.Ns mainGlobals mg → (∀ p ∈ cs, LamX.TabB base mg p.1 p.2) → FnOk l.prog w K mg base CX0 k fa fd [x] (spD K R)) : LamX.LawAtS l w K CX0 k 63 x mg fa h := by
  refine ⟨fd, cs, _, hT, nT, fun p mp => PySem.W.codeHd_of_K KX (hc p mp), hb, fun H a ns hl _ hH hS => ?_, F⟩
  have tb : TabsG H := fun p mp => by
    obtain ⟨q, mq, e⟩ := hE p mp
    exact .nil (by rw [← e]; exact hH q mq)
  exact ⟨H, [.list (ns.map PyData.int)], .bool true, hR ns hl, ⟨Sam.refl _, tb⟩, .cons (.lst hS DqAll.ofInts) .nil, fun _ _ _ _ dv => Dq.bool_inv dv⟩
end DX

namespace DX
open PySem L2 PySem.Spec PyProof.Rows
variable [TabEnv]
/-! ### lists of data: remove, in, sorted, list(range(..)) -/
section
variable {X : Cx} {K : PySem.W.Frag} {w : World}
def rRemD (K : PySem.W.Frag) : V → List V → Hp → VK → Prop := fun x xs H Q => ∃ (l : Addr) (y : V) (vs : List V) (d z : D) (ds : List D) (j : Nat), x = .ref l ∧ xs = [y] ∧ H l = some (.lst vs) ∧ DpAll K H vs ds ∧ Dp K H y d ∧ SeqAt.shaped (.list ds) = true ∧ SeqAt.shaped d = true ∧
  ds[j]? = some z ∧ PyData.eqv z d = true ∧ (∀ (m : Nat) (z' : D), m < j → ds[m]? = some z' → PyData.eqv z' d = false) ∧ Q .non (upd H l (.lst (vs.eraseIdx j)))
theorem mt_removeD (hu : X.A.units + 65 < cLine) (hK : X.K = K := by rfl) : MtM X "list.remove" (rRemD K) := by
  subst hK
  intro pins s σ H x xs v us Q I rx rs h
  obtain ⟨l, y, vs, d, z, ds, j, rfl, rfl, hl, ha, hy, sl, sd, hz, hzj, hno, q⟩ := h
  cases rx
  cases rs with
  | cons ry rt =>
    rename_i uy ut
    cases rt
    obtain ⟨cs, r1⟩ := Dp.reads I d y uy hy ry
    have lay : PyData.canLayAll0 ds = true := SeqAt.canLay_of_shaped sl
    have room : X.A.units + 1 + min (PyData.depthAll ds) d.depth < cLine := room_in_shaped sd hu
    obtain ⟨hlen, its, n, rv, hn, e⟩ := I.lstM hl
    obtain ⟨qs, h4⟩ := Dp.readsAll (X := X) I ds _ its ha rv
    have hn2 : its.length = ds.length := SeqAt.ReadsAll.length ds its qs h4
    have hmap : its.map (SeqAt.readOf s.heap) = ds := SeqAt.readsAll_map ds its qs lay h4
    have hjd := (List.getElem?_eq_some_iff.mp hz).1
    have hj : j < its.toArray.size := by simpa using (show j < its.length by omega)
    have at_ : ∀ (m : Nat) (hm : m < its.toArray.size) (z' : D), ds[m]? = some z' → SeqAt.readOf s.heap its.toArray[m] = z' := fun m hm z' hz' => by
      have hmn : m < its.length := by simpa using hm
      rw [← hmap, List.getElem?_map, List.getElem?_eq_getElem hmn] at hz'
      have e1 : SeqAt.readOf s.heap its[m] = z' := Option.some.inj hz'
      simpa using e1
    refine call_meets PySem.F.slot_list_remove ⟨_, e, rfl⟩ PySem.F.entry_list_remove (PySem.F.args_list_remove_2 _ _)
      (SeqAt.list_removeAt l its.toArray n none #[] uy (fun u => PyData.eqv (SeqAt.readOf s.heap u) d) j hj ?_ ?_ (by rw [List.size_toArray]; omega)) ⟨e, SeqAt.items_eqAt (vs := its.toArray) (show ReadsAll s.heap its.toArray.toList ds qs from h4) r1 lay (SeqAt.canLay_of_shaped sd) room, ?_⟩
    · exact (congrArg (PyData.eqv · d) (at_ j hj z hz)).trans hzj
    · intro m hm hmj
      have hz' : ds[m]? = some ds[m] := List.getElem?_eq_getElem (by omega)
      exact (congrArg (PyData.eqv · d) (at_ m hm _ hz')).trans (hno m _ hmj hz')
    · refine ⟨.non, _, I.lset (its' := its.eraseIdx j) (t' := s.toks) hl e ?_ (rv.eraseIdx j) ?_, rfl, q⟩
      · exact List.eraseIdxIfInBounds_toArray ..
      · rw [List.length_eraseIdx]; split <;> omega
theorem kx_inD (hu : X.A.units + 65 < cLine) (hK : X.K = K := by rfl) : OpR X (compareOp .In) (rInD K) := by subst hK; exact op_inD hu
theorem kx_notinD (hu : X.A.units + 65 < cLine) (hK : X.K = K := by rfl) : OpR X (compareOp .NotIn) (rNotInD K) := by subst hK; exact op_notInD hu
theorem kx_sortedI (hK : X.K = K := by rfl) : CallR X (.builtin "sorted") (rSortedI K) := by subst hK; exact cr_sortedI
end
section
variable {X : Cx} {K : PySem.W.Frag}
theorem kpg_lst {es : List Expr} {k : Nat} {t : TGs} {n : Nat} {pos : Pos} (hc : X.calm = true) (h : PGs X es t) (hK : X.K = K := by rfl) (hn : (assignEach es X.env).length = n := by rfl) (hst : (assignEach es X.env).findIdx? (·.1) = none := by rfl) :
    PG X (.Tuple es k pos) (gLst K n t) := by subst hK; exact pg_lst hc h hn hst
end
/-- the ints of a list, ascending -/
def asc (ns : List Int) : List Int := ns.mergeSort fun a b => decide (a ≤ b)
theorem asc_perm (ns : List Int) : (asc ns).Perm ns := List.mergeSort_perm ..
theorem asc_pw (ns : List Int) : (asc ns).Pairwise (· ≤ ·) := by
  have := List.pairwise_mergeSort (le := fun a b : Int => decide (a ≤ b)) (fun a b c h1 h2 => by rw [decide_eq_true_eq] at *; omega) (fun a b => by rw [Bool.or_eq_true, decide_eq_true_eq, decide_eq_true_eq]; omega) ns
  exact this.imp fun h => of_decide_eq_true h
theorem asc_uni : ∀ {a b : List Int}, a.Perm b → a.Pairwise (· ≤ ·) → b.Pairwise (· ≤ ·) → a = b
  | [], b, p, _, _ => (List.perm_nil.mp p.symm).symm
  | x :: a, [], p, _, _ => absurd (List.perm_nil.mp p) (fun z => nomatch z)
  | x :: a, y :: b, p, ha, hb => by
    obtain ⟨h1, h2⟩ := List.pairwise_cons.mp ha
    obtain ⟨h3, h4⟩ := List.pairwise_cons.mp hb
    have e : x = y := by
      have m1 : x ∈ y :: b := p.mem_iff.mp (List.mem_cons_self ..)
      have m2 : y ∈ x :: a := p.mem_iff.mpr (List.mem_cons_self ..)
      rcases List.mem_cons.mp m1 with z | z
      · exact z
      · rcases List.mem_cons.mp m2 with z' | z'
        · exact z'.symm
        · have := h3 x z
          have := h1 y z'
          omega
    subst e
    rw [asc_uni ((List.perm_cons _).mp p) h2 h4]
section
variable {K : PySem.W.Frag} {w : World} {B0 H0 B H B' H' : Hp} {σ : L2.St} {δ δ' : List SV} {ta tb te : TE} {d x y z : D} {ds es : List D} {E : EndsD} {i : Nat}
theorem ed_inD (ha : ED K ta δ d) (hb : ED K tb δ (.list ds)) (sd : SeqAt.shaped d = true) (sl : SeqAt.shaped (.list ds) = true) : ED K (tOp (rInD K) ta tb) δ (.bool (ds.any fun z => PyData.eqv z d)) := fun B0 H0 B H σ Q S q =>
  ha B0 H0 B H σ _ S fun v B1 H1 s1 a => hb B0 H0 B1 H1 σ _ (S.step s1) fun w B2 H2 s2 b =>
    ⟨d, ds, Dq.dp _ _ (Dq.up (s2.bb.trans s2.bh.sm) _ _ a) (SeqAt.canLay_of_shaped sd), Dq.dp _ _ (Dq.up s2.bh.sm _ _ b) (SeqAt.canLay_of_shaped sl), sd, sl, q _ B2 H2 (s1.trans s2) (.bl _)⟩
theorem ed_notinD (ha : ED K ta δ d) (hb : ED K tb δ (.list ds)) (sd : SeqAt.shaped d = true) (sl : SeqAt.shaped (.list ds) = true) : ED K (tOp (rNotInD K) ta tb) δ (.bool (!ds.any fun z => PyData.eqv z d)) := fun B0 H0 B H σ Q S q =>
  ha B0 H0 B H σ _ S fun v B1 H1 s1 a => hb B0 H0 B1 H1 σ _ (S.step s1) fun w B2 H2 s2 b =>
    ⟨d, ds, Dq.dp _ _ (Dq.up (s2.bb.trans s2.bh.sm) _ _ a) (SeqAt.canLay_of_shaped sd), Dq.dp _ _ (Dq.up s2.bh.sm _ _ b) (SeqAt.canLay_of_shaped sl), sd, sl, q _ B2 H2 (s1.trans s2) (.bl _)⟩
theorem en_sortedI {ns : List Int} (h : ED K te δ (.list (ns.map PyData.int))) : EN K (tCB (rSortedI K) (tCons te tNil)) δ ((asc ns).map PyData.int) := fun B0 H0 B H σ Q S q =>
  h B0 H0 B H σ _ S fun v B1 H1 s1 a => by
    cases a with
    | lst hs hA =>
      cases hA.ints
      refine ⟨_, ns, rfl, s1.bh.seq hs, fun ms p hp hw np => ?_⟩
      have e : ms = asc ns := asc_uni (hp.trans (asc_perm ns).symm) hw (asc_pw ns)
      subst e
      exact q p _ B1 _ (s1.trans (.newOwn s1.bh np)) (s1.hh.free np) (s1.bh.free np) upd_same DqAll.ofInts
theorem en_listRg {n : Int} (h : ED K ta δ (.int n)) (h0 : 0 ≤ n) (hn : n ≤ 16777216) : EN K (tLstRg (tRg1 ta)) δ ((List.range n.toNat).map fun i => PyData.int (i : Nat)) := fun B0 H0 B H σ Q S q =>
  h B0 H0 B H σ _ S fun v B1 H1 s1 a => by
    cases Dq.int_inv a
    refine ⟨n, rfl, RgOk.of_le (by omega) hn (by omega) h0, fun p np => q p _ B1 _ (s1.trans (.newOwn s1.bh np)) (s1.hh.free np) (s1.bh.free np) upd_same ?_⟩
    unfold rgV
    rw [Int.sub_zero]
    have : ∀ l : List Nat, DqAll K B1 (l.map fun i => V.int (0 + (i : Nat))) (l.map fun i => PyData.int (i : Nat)) := fun l => by
      induction l with
      | nil => exact .nil
      | cons i l ih => exact .cons (by show Dq K B1 (V.int (0 + (i : Nat))) (.int (i : Nat)); rw [Int.zero_add]; exact .int _) ih
    exact this _
/-- xs.remove(e), xs a list of its frame alone -/
theorem wp_removeD {j : Nat} (e : δ[i]? = some (.own (.l ds))) (h : ED K te δ d) (sl : SeqAt.shaped (.list ds) = true) (sd : SeqAt.shaped d = true) (hz : ds[j]? = some z) (hj : PyData.eqv z d = true) (hno : ∀ (m : Nat) (z' : D), m < j → ds[m]? = some z' → PyData.eqv z' d = false)
    (q : E.nx (δ.set i (.own (.l (ds.eraseIdx j))))) : WP K (tDrop (tBM K "list" (rRemD K) (tVar i) (tCons te tNil))) E δ := fun B0 H0 B H σ D L S => by
  obtain ⟨p, vs, a1, hp, bp, h0, dp⟩ := S.slotOwn e
  refine ⟨_, a1, .inl ⟨rfl, vs, .inl (.inl hp)⟩, h B0 H0 B H σ _ S fun v B1 H1 s1 dv => ?_⟩
  have S1 := S.step s1
  obtain ⟨p', vs', a2, hp', bp', h0', dp'⟩ := S1.slotOwn e
  rw [a1] at a2; cases a2
  have lay := SeqAt.canLay_of_shaped sl
  refine ⟨p, v, vs', d, z, ds, j, rfl, rfl, hp', DqAll.dp _ _ (DqAll.up s1.bh.sm _ _ dp') lay, Dq.dp _ _ (Dq.up s1.bh.sm _ _ dv) (SeqAt.canLay_of_shaped sd), sl, sd, hz, hj, hno, ?_⟩
  exact L.nx _ _ B1 _ (own_upd (yo := .l _) S1 e a1 bp' h0' ⟨_, rfl, dqall_erase j dp'⟩) q
/-- a, b = a list -/
theorem gd_lst {g : TGs} {n : Nat} (h : GDs K g δ ds δ') (e : ds.length = n) : GD K (gLst K n g) δ (.list ds) δ' := fun B0 H0 B H σ v Q S a q => by
  cases a with
  | lst hs hA => exact ⟨_, _, rfl, S.hist.bh.seq hs, hA.len.trans e, h B0 H0 B H σ _ Q S hA q⟩
/-! an owned list is handed to a def whose answer is a tuple of plain things -/
def Pln : D → Prop
  | .none => True
  | .bool _ => True
  | .int _ => True
  | .str _ => True
  | _ => False
theorem Pln.dq {v : V} (s : Pln d) (h : Dq K B v d) : Dq K B' v d := by
  cases h with
  | non => exact .non
  | bl b => exact .bl b
  | int i => exact .int i
  | str x => exact .str x
  | lst _ _ => exact s.elim
  | tup _ _ => exact s.elim
  | dct _ _ => exact s.elim
theorem Pln.all : ∀ {ds : List D} {vs : List V}, (∀ d ∈ ds, Pln d) → DqAll K B vs ds → DqAll K B' vs ds
  | [], _, _, h => by cases h; exact .nil
  | d :: ds, _, hs, h => by
    cases h with
    | cons a b => exact .cons ((hs _ (List.mem_cons_self ..)).dq a) (Pln.all (fun d md => hs d (List.mem_cons_of_mem _ md)) b)
def Flt : D → Prop
  | .tuple ds => ∀ d ∈ ds, Pln d
  | d => Pln d
theorem Flt.off {p : Addr} {vs : List V} {v : V} (s : Flt d) (hp : B p = some (.lst vs)) (h : Dq K B v d) : Dq K (fun a => if a = p then none else B a) v d := by
  cases h with
  | non => exact .non
  | bl b => exact .bl b
  | int i => exact .int i
  | str x => exact .str x
  | lst _ _ => exact s.elim
  | @tup a xs ds hs hA =>
    refine .tup ?_ (Pln.all s hA)
    rcases hs with (e | ⟨o, e⟩) | e
    · have : a ≠ p := fun z => by subst z; rw [hp] at e; cases e
      exact .inl (.inl ((if_neg this).trans e))
    · have : a ≠ p := fun z => by subst z; rw [hp] at e; cases e
      exact .inl (.inr ⟨o, (if_neg this).trans e⟩)
    · exact .inr e
  | dct _ _ => exact s.elim
theorem ep_thawT {P : D → Prop} (e : δ[i]? = some (.own (.l ds))) (h : EP K te (δ.set i (.val (.list ds))) P) (hs : ∀ d, P d → Flt d) : EP K te δ P := fun B0 H0 B H σ Q S q => by
  obtain ⟨p, vs, a1, hp, bp, h0, dp⟩ := S.slotOwn e
  obtain ⟨k1, k2⟩ := Stp.know (o := .lst vs) S.hist.bh bp hp
  have S2 := S.freezeAt e a1 hp bp h0 dp
  refine h B0 H0 _ H σ Q S2 fun v B2 H2 d s2 dv pd => ?_
  have b2 : B2 p = some (.lst vs) := s2.bb.at upd_same
  refine q v (fun a => if a = p then none else B2 a) H2 d ⟨fun a o ea => ?_, ⟨fun a o ea => ?_, s2.bh.tb⟩, s2.hh, fun a ha hb => ?_⟩ ((hs d pd).off b2 dv) pd
  · have : a ≠ p := fun z => by subst z; rw [bp] at ea; cases ea
    show ∃ o', (if a = p then none else B2 a) = some o' ∧ _
    rw [if_neg this]
    exact (k1.trans s2.bb) _ _ ea
  · have ea : (if a = p then none else B2 a) = some o := ea
    by_cases z : a = p
    · rw [if_pos z] at ea; cases ea
    · rw [if_neg z] at ea; exact s2.bh.sm _ _ ea
  · show (if a = p then none else B2 a) = none
    by_cases z : a = p
    · rw [if_pos z]
    · rw [if_neg z]
      exact s2.fr a ha (by rw [upd_ne z]; exact hb)
end
end DX
theorem L2.hu65 {k : Nat} {A : PySem.Around} (hr : L2.Room k A) : A.units + 65 < PySem.cLine := by
  have := hr.un
  omega

namespace DX
open PySem L2 PySem.Spec PyProof.Rows
variable [TabEnv]
section
variable {X : Cx} {K : PySem.W.Frag} {w : World}
theorem kpe_lenSet {a : Expr} {ta : TE} {p p2 q pos : Pos} (hg : Gl X "len") (hm : X.mg "len" = none) (hg2 : Gl X "set") (hm2 : X.mg "set" = none) (ha : PE X a ta) (hK : X.K = K := by rfl) (hc : X.calm = true := by rfl)
    (na : starEach [a] X.env = (false, eval a X.env) :: starEach [] X.env := by rfl) : PE X (.Call (.Name "len" p) [.Call (.Name "set" p2) [a] [] q] [] pos) (RZ.tLenSetI K ta) := by subst hK; exact RZ.pe_lenSetI hg hm hg2 hm2 ha hc na
theorem kx_min (hc : X.calm = true := by rfl) (hK : X.K = K := by rfl) : CallR X (.builtin "min") (rMin K) := by subst hK; exact cr_min hc
theorem kx_max (hc : X.calm = true := by rfl) (hK : X.K = K := by rfl) : CallR X (.builtin "max") (rMax K) := by subst hK; exact cr_max hc
def rNotInT (K : PySem.W.Frag) : R2 := fun x y H Q => ∃ d ds, Dp K H x d ∧ Dp K H y (.tuple ds) ∧ SeqAt.shaped d = true ∧ SeqAt.shaped (.tuple ds) = true ∧ Q (.bl (!ds.any fun z => PyData.eqv z d)) H
theorem kx_notinT (hu : X.A.units + 65 < cLine) (hK : X.K = K := by rfl) : OpR X (compareOp .NotIn) (rNotInT K) := by
  subst hK
  intro pins s σ H x y v u Q I rx ry ⟨d, ds, hd, he, sd, se, q⟩
  obtain ⟨ps, r1⟩ := Dp.reads I d x v hd rx
  obtain ⟨qs, r2⟩ := Dp.reads I (.tuple ds) y u he ry
  exact SeqAt.notIn_tuple_reads r2 r1 (SeqAt.canLay_of_shaped se) (SeqAt.canLay_of_shaped sd) (room_in_shaped sd hu) ⟨.bl _, H, I, rfl, q⟩
end
section
variable {K : PySem.W.Frag} {w : World} {B0 H0 B H B' H' : Hp} {σ : L2.St} {δ δ' : List SV} {ta tb te ty : TE} {tt : TT} {d x y z : D} {ds es : List D} {E : EndsD} {i : Nat} {b : Bool}
theorem ed_lenSet {ns : List Int} (h : ED K ta δ (.list (ns.map PyData.int))) (nd : ns.Nodup) (hl : ns.length ≤ 4000) : ED K (RZ.tLenSetI K ta) δ (.int (ns.length : Nat)) := fun B0 H0 B H σ Q S q =>
  h B0 H0 B H σ _ S fun v B1 H1 s1 a => by
    cases a with
    | lst hs hA =>
      cases hA.ints
      exact ⟨_, ns, rfl, s1.bh.seq hs, nd, hl, q _ B1 H1 s1 (.int _)⟩
theorem ed_minL {a b : Int} (h : ED K ta δ (.list [.int a, .int b])) : ED K (tCB (rMin K) (tCons ta tNil)) δ (.int (min a b)) := fun B0 H0 B H σ Q S q =>
  h B0 H0 B H σ _ S fun v B1 H1 s1 dv => by
    cases dv with
    | lst hs hA =>
      cases (DqAll.ints (ns := [a, b]) hA)
      refine ⟨_, [a, b], rfl, s1.bh.seq hs, (by show 0 < 2; decide), fun m hm hy => ?_⟩
      have e : m = min a b := by
        have h1 := hy a (by simp)
        have h2 := hy b (by simp)
        have h3 : m = a ∨ m = b := by simpa using hm
        omega
      subst e
      exact q _ B1 H1 s1 (.int _)
theorem ed_maxL {a b : Int} (h : ED K ta δ (.list [.int a, .int b])) : ED K (tCB (rMax K) (tCons ta tNil)) δ (.int (max a b)) := fun B0 H0 B H σ Q S q =>
  h B0 H0 B H σ _ S fun v B1 H1 s1 dv => by
    cases dv with
    | lst hs hA =>
      cases (DqAll.ints (ns := [a, b]) hA)
      refine ⟨_, [a, b], rfl, s1.bh.seq hs, (by show 0 < 2; decide), fun m hm hy => ?_⟩
      have e : m = max a b := by
        have h1 := hy a (by simp)
        have h2 := hy b (by simp)
        have h3 : m = a ∨ m = b := by simpa using hm
        omega
      subst e
      exact q _ B1 H1 s1 (.int _)
theorem ed_notinT (ha : ED K ta δ d) (hb : ED K tb δ (.tuple ds)) (sd : SeqAt.shaped d = true) (sl : SeqAt.shaped (.tuple ds) = true) : ED K (tOp (rNotInT K) ta tb) δ (.bool (!ds.any fun z => PyData.eqv z d)) := fun B0 H0 B H σ Q S q =>
  ha B0 H0 B H σ _ S fun v B1 H1 s1 a => hb B0 H0 B1 H1 σ _ (S.step s1) fun w B2 H2 s2 b =>
    ⟨d, ds, Dq.dp _ _ (Dq.up (s2.bb.trans s2.bh.sm) _ _ a) (SeqAt.canLay_of_shaped sd), Dq.dp _ _ (Dq.up s2.bh.sm _ _ b) (SeqAt.canLay_of_shaped sl), sd, sl, q _ B2 H2 (s1.trans s2) (.bl _)⟩
/-- a test reads an owned list -/
theorem et_thaw (e : δ[i]? = some (.own (.l ds))) (h : ET K tt (δ.set i (.val (.list ds))) b) : ET K tt δ b := fun B0 H0 B H σ Q S q => by
  obtain ⟨p, vs, a1, hp, bp, h0, dp⟩ := S.slotOwn e
  obtain ⟨k1, k2⟩ := Stp.know (o := .lst vs) S.hist.bh bp hp
  refine h B0 H0 _ H σ Q (S.freezeAt e a1 hp bp h0 dp) fun B2 H2 s2 => ?_
  refine q (fun a => if a = p then none else B2 a) H2 ⟨fun a o ea => ?_, ⟨fun a o ea => ?_, s2.bh.tb⟩, s2.hh, fun a ha hb => ?_⟩
  · have : a ≠ p := fun z => by subst z; rw [bp] at ea; cases ea
    show ∃ o', (if a = p then none else B2 a) = some o' ∧ _
    rw [if_neg this]
    exact (k1.trans s2.bb) _ _ ea
  · have ea : (if a = p then none else B2 a) = some o := ea
    by_cases z : a = p
    · rw [if_pos z] at ea; cases ea
    · rw [if_neg z] at ea; exact s2.bh.sm _ _ ea
  · show (if a = p then none else B2 a) = none
    by_cases z : a = p
    · rw [if_pos z]
    · rw [if_neg z]
      exact s2.fr a ha (by rw [upd_ne z]; exact hb)
/-! a dict of texts, made and asked at once -/
def kvT (kv : List (Str × Int)) : List (TE × TE) := kv.map fun q => (tC (.str q.1), tC (.int q.2))
def kvK (kv : List (Str × Int)) : List (Key × V) := kv.map fun q => (Sum.inr q.1, V.int q.2)
theorem kvT_run (kv : List (Str × Int)) : ∀ (Q : List (V × V) → Hp → Prop), Q (kv.map fun q => (V.str q.1, V.int q.2)) H → tPairs (kvT kv) σ H Q := by
  induction kv with
  | nil => exact fun Q h => h
  | cons q kv ih => exact fun Q h => ih (fun ps H3 => Q ((V.str q.1, V.int q.2) :: ps) H3) h
theorem ed_dispGet {kv : List (Str × Int)} {s : Str} {z r : Int} (h : ED K ty δ (.str s)) (hl : kv.length ≤ 15) (e : (valV (mergeK [] (kvK kv)) (Sum.inr s)).getD (.int z) = .int r) : ED K (tDGet2 (tDisp (kvT kv)) ty (tC (.int z))) δ (.int r) := fun B0 H0 B H σ Q S q => by
  intro p np
  refine kvT_run kv _ ⟨upd_same, kvK kv, by unfold kvK; rw [List.map_map]; rfl, by unfold kvK; rw [List.length_map]; exact hl, ?_⟩
  have eu : upd (upd H p (.dK [])) p (.dK (mergeK [] (kvK kv))) = upd H p (.dK (mergeK [] (kvK kv))) := funext fun a => by
    by_cases ha : a = p
    · rw [ha, upd_same, upd_same]
    · rw [upd_ne ha, upd_ne ha, upd_ne ha]
  rw [eu]
  have sN : Stp B H B (upd H p (.dK (mergeK [] (kvK kv)))) := .newOwn S.hist.bh np
  refine ⟨p, rfl, .inl ⟨_, .inl upd_same⟩, h B0 H0 B _ σ _ (S.step sN) fun v B1 H1 s1 dv => ?_⟩
  cases dv
  refine ⟨_, .inl ⟨_, Sum.inr s, .inl (s1.hh.at upd_same), rfl, rfl⟩, ?_⟩
  show Q ((valV _ _).getD (.int z)) _
  rw [e]
  exact q _ B1 H1 (sN.trans s1) (.int _)
end
end DX

namespace DX
open PySem L2 PySem.Spec PyProof.Rows
variable [TabEnv]
section
variable {X : Cx} {K : PySem.W.Frag} {w : World}
theorem kpa_star {e : Expr} {p : Pos} {es : List Expr} {te : TE} {t : TA} (he : PE X e te) (hr : PA X es t) (hK : X.K = K := by rfl) (hs : starEach (.Starred e p :: es) X.env = (true, eval e X.env) :: starEach es X.env := by rfl) :
    PA X (.Starred e p :: es) (StX.tStar K te t) := by subst hK; exact StX.pa_star he hr hs
end
section
variable {K : PySem.W.Frag} {w : World} {B0 H0 B H B' H' : Hp} {σ : L2.St} {δ δ' : List SV} {ta tb te ty : TE} {t : TA} {d x y z : D} {ds es : List D} {E : EndsD} {i : Nat} {b : Bool}
theorem ea_star (h : ED K te δ x) (e : itemsD x = some es) (ht : EA K t δ ds) : EA K (StX.tStar K te t) δ (es ++ ds) := fun B0 H0 B H σ Q S q =>
  h B0 H0 B H σ _ S fun v B1 H1 s1 a => by
    have fin : ∀ (p : Addr) (xs : List V), (SqT K H1 p xs ∨ SqL K H1 p xs) → DqAll K B1 xs es → v = .ref p → ∃ p xs, v = V.ref p ∧ (SqT K H1 p xs ∨ SqL K H1 p xs) ∧ t σ H1 fun ys H2 => Q (xs ++ ys) H2 := fun p xs hs hA ev =>
      ⟨p, xs, ev, hs, ht B0 H0 B1 H1 σ _ (S.step s1) fun ys B2 H2 s2 hy => q (xs ++ ys) B2 H2 (s1.trans s2) ((DqAll.up s2.bb _ _ hA).app hy)⟩
    cases a with
    | lst hs hA =>
      have e : _ = es := Option.some.inj e
      subst e
      exact fin _ _ (.inr (s1.bh.seq hs)) hA rfl
    | tup hs hA =>
      have e : _ = es := Option.some.inj e
      subst e
      exact fin _ _ (.inl (sqT_up s1.bh.sm hs)) hA rfl
    | _ => cases e
theorem ed_bits {i : Int} (h : ED K te δ (.int i)) : ED K (tBits te) δ (.int (Builtin.Int.intBits i : Nat)) := fun B0 H0 B H σ Q S q =>
  h B0 H0 B H σ _ S fun v B1 H1 s1 a => by
    cases Dq.int_inv a
    exact ⟨i, rfl, q _ B1 H1 s1 (.int _)⟩
end
end DX

namespace DX
open PySem L2 PySem.Spec PyProof.Rows
variable [TabEnv]
/-! ### an object that changes is only read for a while -/
section
variable {K : PySem.W.Frag} {w : World} {B0 H0 B H B' H' : Hp} {σ : L2.St} {δ δ' : List SV} {ta tb te ty : TE} {tt : TT} {d x y z : D} {ds es : List D} {E : EndsD} {i : Nat} {b : Bool} {C p : Addr} {fs : FM} {F : List Addr}
def frzB (G : List Addr) (B H : Hp) : Hp := fun a => if a ∈ G then H a else B a
theorem few_keys {ws : List (Str × V)} {G : List Addr} (rr : FsRep K B H fs ws G) : ∀ x, (ws.lookup x).isSome → x ∈ (kn fs).map (·.1) := fun x hx => by
  have : (kn fs).map (·.1) = fs.map Prod.fst := kn_keys
  rw [this, ← rr.keys]
  cases el : ws.lookup x with
  | none => rw [el] at hx; cases hx
  | some v =>
    refine Classical.byContradiction fun z => ?_
    have no : ∀ (l : List (Str × V)), x ∉ l.map Prod.fst → l.lookup x = none := fun l => by
      induction l with
      | nil => exact fun _ => rfl
      | cons q l ih =>
        intro hq
        exact (lookup_miss (fun e => hq (e ▸ List.mem_cons_self ..) : ¬ q.1 = x)).trans (ih fun z => hq (List.mem_cons_of_mem _ z))
    rw [no _ z] at el; cases el
theorem Sd.frzBig (S : Sd K B0 H0 B H σ δ) (e : δ[i]? = some (hold K C p fs F)) (hd : (fs.map Prod.fst).Nodup) : ∃ G : List Addr, F = p :: G ∧ (∀ a ∈ G, B a = none ∧ H a ≠ none) ∧ Sam B (frzB G B H) ∧ (NoM fs → ∀ a ∈ G, ∃ vs, H a = some (.lst vs)) ∧ Sd K B0 H0 (frzB G B H) H σ (δ.set i (.ob C (kn fs))) := by
  obtain ⟨dx, ws, G, a1, hp, rr, rfl, nd, hF⟩ := S.slotBig e
  have bG : ∀ a ∈ G, B a = none := fun a ma => (hF a (List.mem_cons_of_mem _ ma)).2.1
  have k1 : Sam B (frzB G B H) := fun a o ea => by
    have na : a ∉ G := fun z => by rw [bG a z] at ea; cases ea
    exact ⟨o, (if_neg na).trans ea, fun _ => rfl⟩
  have k2 : Sam (frzB G B H) H := fun a o ea => by
    have ea : (if a ∈ G then H a else B a) = some o := ea
    by_cases z : a ∈ G
    · rw [if_pos z] at ea; exact ⟨o, ea, fun _ => rfl⟩
    · rw [if_neg z] at ea; exact S.hist.bh.sm _ _ ea
  refine ⟨G, rfl, fun a ma => ⟨bG a ma, (hF a (List.mem_cons_of_mem _ ma)).1⟩, k1, fun hn => rr.lists hn, ⟨S.hist.bb.trans k1, ⟨k2, S.hist.bh.tb⟩, S.hist.hh, fun a q z => ?_⟩, by rw [List.length_set]; exact S.len, fun j t ej => ?_, fun j k t u o q n e1 e2 e3 e4 a ma mb => ?_⟩
  · have na : a ∉ G := fun m => q (hF a (List.mem_cons_of_mem _ m)).2.2
    exact (if_neg na).trans (S.hist.fr a q z)
  · rcases get_set ej with ⟨rfl, rfl⟩ | ⟨hne, ej⟩
    · exact ⟨_, a1, p, dx, ws, rfl, hp, few_keys rr, rr.kn k1 (fun a ma => if_pos ma) hd⟩
    · obtain ⟨o, eo, ok⟩ := S.ok j t ej
      have aw : ∀ a ∈ foot t o, a ∉ G := fun a ma mg => S.apart j i _ _ _ _ (Ne.symm hne) ej e eo a1 a ma (List.mem_cons_of_mem _ mg)
      refine ⟨o, eo, ?_⟩
      cases t with
      | no => exact True.intro
      | val d => obtain ⟨v, e1, q⟩ := ok; exact ⟨v, e1, Dq.up k1 _ _ q⟩
      | ob C' fs' =>
        obtain ⟨pp, dx', ws', rfl, hp', hn', hf'⟩ := ok
        exact ⟨pp, dx', ws', rfl, hp', hn', hf'.up k1⟩
      | own xo =>
        obtain ⟨pp, u, rfl, hp', bp, h0, q⟩ := ok
        exact ⟨pp, u, rfl, hp', (if_neg (aw pp (List.mem_singleton.mpr rfl))).trans bp, h0, q.up k1⟩
      | big R2 F2 =>
        obtain ⟨v, rfl, r, st2, ha⟩ := ok
        refine ⟨v, rfl, st2 B H _ H v r (fun w d => Dq.up k1 d w) (fun a ma o eo nt => eo), st2, fun a ma => ?_⟩
        obtain ⟨h1, h2, h3⟩ := ha a ma
        exact ⟨h1, (if_neg (aw a ma)).trans h2, h3⟩
  · have sub : ∀ (o : Option V), σ[i]? = some o → ∀ a ∈ foot (.ob C (kn fs)) o, a ∈ foot (hold K C p fs (p :: G)) o := fun o eo a ma => by
      rw [a1] at eo; cases eo
      rw [List.mem_singleton.mp ma]; exact List.mem_cons_self ..
    rcases get_set e1 with ⟨rfl, rfl⟩ | ⟨z, b⟩
    · rcases get_set e2 with ⟨z', _⟩ | ⟨z', b'⟩
      · exact n z'
      · exact S.apart i k _ _ _ _ n e b' e3 e4 a (sub o e3 a ma) mb
    · rcases get_set e2 with ⟨rfl, rfl⟩ | ⟨z', b'⟩
      · exact S.apart j i _ _ _ _ n b e e3 e4 a ma (sub q e4 a mb)
      · exact S.apart j k _ _ _ _ n b b' e3 e4 a ma mb
/-- back again -/
theorem Stp.thawB {G : List Addr} {B2 H2 : Hp} (hG : ∀ a ∈ G, B a = none ∧ H a ≠ none) (k1 : Sam B (frzB G B H)) (s : Stp (frzB G B H) H B2 H2) : Stp B H (wo G B2) H2 := by
  refine ⟨fun a o ea => ?_, ⟨fun a o ea => s.bh.sm _ _ (wo_some ea).2, s.bh.tb⟩, s.hh, fun a ha hb => ?_⟩
  · have na : a ∉ G := fun z => by rw [(hG a z).1] at ea; cases ea
    rw [wo_out na]
    exact (k1.trans s.bb) a o ea
  · by_cases z : a ∈ G
    · exact wo_in z
    · rw [wo_out z]
      exact s.fr a ha ((if_neg z).trans hb)
theorem ed_frz (e : δ[i]? = some (hold K C p fs F)) (hd : (fs.map Prod.fst).Nodup) (hs : Pln d) (h : ED K te (δ.set i (.ob C (kn fs))) d) : ED K te δ d := fun B0 H0 B H σ Q S q => by
  obtain ⟨G, rfl, hG, k1, _, S'⟩ := S.frzBig e hd
  exact h B0 H0 _ H σ Q S' fun v B2 H2 s dv => q v (wo G B2) H2 (Stp.thawB hG k1 s) (hs.dq dv)
theorem et_frz (e : δ[i]? = some (hold K C p fs F)) (hd : (fs.map Prod.fst).Nodup) (h : ET K tt (δ.set i (.ob C (kn fs))) b) : ET K tt δ b := fun B0 H0 B H σ Q S q => by
  obtain ⟨G, rfl, hG, k1, _, S'⟩ := S.frzBig e hd
  exact h B0 H0 _ H σ Q S' fun B2 H2 s => q (wo G B2) H2 (Stp.thawB hG k1 s)
theorem frz_new {G : List Addr} {a : Addr} (hG : ∀ a ∈ G, B a = none ∧ H a ≠ none) (n : H a = none) : a ∉ G := fun z => (hG a z).2 n
theorem en_frz (e : δ[i]? = some (hold K C p fs F)) (hd : (fs.map Prod.fst).Nodup) (hs : ∀ d ∈ ds, Pln d) (h : EN K te (δ.set i (.ob C (kn fs))) ds) : EN K te δ ds := fun B0 H0 B H σ Q S q => by
  obtain ⟨G, rfl, hG, k1, _, S'⟩ := S.frzBig e hd
  exact h B0 H0 _ H σ Q S' fun l vs B2 H2 s nl bl hl da => q l vs (wo G B2) H2 (Stp.thawB hG k1 s) nl (by rw [wo_out (frz_new hG nl)]; exact bl) hl (Pln.all hs da)
theorem LRep.off {G : List Addr} {B2 H2 : Hp} {bs : List Addr} {dss : List (List D)} (h : LRep K B2 H2 bs dss) : (∀ ds ∈ dss, ∀ d ∈ ds, Pln d) → LRep K (wo G B2) H2 bs dss := by
  induction h with
  | nil => exact fun _ => .nil
  | cons e q _ ih => exact fun hs => .cons e (Pln.all (hs _ (List.mem_cons_self ..)) q) (ih fun ds md => hs ds (List.mem_cons_of_mem _ md))
theorem enn_frz {dss : List (List D)} (e : δ[i]? = some (hold K C p fs F)) (hd : (fs.map Prod.fst).Nodup) (hs : ∀ ds ∈ dss, ∀ d ∈ ds, Pln d) (h : ENN K te (δ.set i (.ob C (kn fs))) dss) : ENN K te δ dss := fun B0 H0 B H σ Q S q => by
  obtain ⟨G, rfl, hG, k1, _, S'⟩ := S.frzBig e hd
  exact h B0 H0 _ H σ Q S' fun a bs B2 H2 s nw nn ha da => q a bs (wo G B2) H2 (Stp.thawB hG k1 s) (fun c mc => ⟨(nw c mc).1, by rw [wo_out (frz_new hG (nw c mc).1)]; exact (nw c mc).2⟩) nn ha (da.off hs)
end
end DX

namespace DX
open PySem L2
variable [TabEnv]
/-! ### more ways to write an object that changes -/
section
variable {K : PySem.W.Frag} {B0 H0 B H B' H' : Hp} {σ : L2.St} {δ δ' : List SV} {ta tb tc te : TE} {d x y : D} {ds es : List D} {dss : List (List D)} {E : EndsD} {C p : Addr} {fs fs' : FM} {F F' : List Addr} {i : Nat} {f m : Str}
/-- o.f.append(e) -/
theorem wp_bigAppL (e : δ[i]? = some (hold K C p fs F)) (l : fget f fs = some (.l ds)) (c : Cls K C) (n : NoAttr K C f) (h : ED K te δ d) (hz : ds.length < sizeLine) (q : E.nx (δ.set i (hold K C p (putD f (.l (ds ++ [d])) fs) F))) :
    WP K (tDrop (tBM K "list" rAppend (tFld K (tVar i) f) (tCons te tNil))) E δ := fun B0 H0 B H σ D L S => by
  obtain ⟨dx, ws, a, vs, a1, hp, hl, ha, dvs, _⟩ := S.bigL e l
  refine ⟨_, a1, p, C, dx, ws, _, rfl, hp, c, n, hl, .inl ⟨rfl, vs, .inl (.inl ha)⟩, h B0 H0 B H σ _ S fun v B1 H1 s1 dv => ?_⟩
  obtain ⟨dx1, ws1, a2, vs1, b1, hp1, hl1, ha1, dvs1, hput⟩ := (S.step s1).bigL e l
  rw [s1.hh.at hp] at hp1; cases hp1
  rw [hl] at hl1; cases hl1
  exact ⟨_, vs1, v, rfl, rfl, ha1, by rw [dvs1.len]; exact hz, L.nx _ _ B1 _ (hput _ _ (dvs1.app (.cons dv .nil))) q⟩
/-- o.f op= e, ints -/
theorem wp_bigAugS {a0 b0 : Int} {g : Int → Int → Int} (e : δ[i]? = some (hold K C p fs F)) (l : fget f fs = some (.s (.int a0))) (c : Cls K C) (n : NoAttr K C f) (hl : fs.length < 1000) (h : ED K te δ (.int b0)) (q : ∀ F', E.nx (δ.set i (hold K C p (putD f (.s (.int (g a0 b0))) fs) F'))) :
    WP K (sFldAug K (tVar i) te (ipI g) f) E δ := fun B0 H0 B H σ D L S => by
  obtain ⟨dx, ws, G, a1, hp, r, rfl, nd, hF⟩ := S.slotBig e
  obtain ⟨v, as, hv, ⟨_, dv⟩, _⟩ := r.get l (List.nodup_cons.mp nd).2
  cases Dq.int_inv dv
  refine ⟨_, a1, p, C, dx, ws, _, rfl, hp, c, n, hv, h B0 H0 B H σ _ S fun w B1 H1 s1 y => ?_⟩
  cases Dq.int_inv y
  refine ⟨a0, b0, rfl, rfl, ?_⟩
  obtain ⟨dx1, ws1, a2, hp1, hw, F', S'⟩ := (S.step s1).bigStore (f := f) (x' := .s (.int (g a0 b0))) (v' := .int (g a0 b0)) (as' := []) e ⟨rfl, .int _⟩ (fun a ma => by cases ma) .nil
  exact ⟨dx1, ws1, hp1, by omega, L.nx _ _ B1 _ S' (q F')⟩
/-- o.f[k][j] = e -/
theorem wp_bigSet2 {k0 j0 : Int} {k j : Nat} (e : δ[i]? = some (hold K C p fs F)) (l : fget f fs = some (.ll dss)) (c : Cls K C) (n : NoAttr K C f) (h : ED K te δ d) (hb : ED K tb δ (.int k0)) (hk : ixN dss.length k0 = some k) (hd : dss[k]? = some ds) (hc : ED K tc δ (.int j0)) (hj : ixN ds.length j0 = some j)
    (q : E.nx (δ.set i (hold K C p (putD f (.ll (dss.set k (ds.set j d))) fs) F))) : WP K (tAsg te (gSub (tOp (rIx K) (tFld K (tVar i) f) tb) tc L2.rSetL)) E δ := fun B0 H0 B H σ D L S =>
  h B0 H0 B H σ _ S fun v B1 H1 s1 dv => bigIn e l c n hb hk hd (S.step s1) fun b B2 H2 s2 ⟨vs, hv⟩ hput => hc B0 H0 B2 H2 σ _ ((S.step s1).step s2) fun w B3 H3 s3 y => by
    cases Dq.int_inv y
    obtain ⟨vs2, h1, h2, h3⟩ := hput B3 H3 s3
    exact ⟨b, vs2, j0, j, rfl, rfl, h1, by rw [h2.len]; exact hj, L.nx _ _ B3 _ (h3 _ _ (h2.set (Dq.up (s2.bb.trans s3.bb) _ _ dv) j)) q⟩
theorem nodup_set {l : List Addr} {k : Nat} {b : Addr} (h : l.Nodup) (hb : b ∉ l) : (l.set k b).Nodup := by
  induction l generalizing k with
  | nil => exact h
  | cons a l ih =>
    obtain ⟨n1, n2⟩ := List.nodup_cons.mp h
    cases k with
    | zero => exact List.nodup_cons.mpr ⟨fun m => hb (List.mem_cons_of_mem _ m), n2⟩
    | succ k =>
      refine List.nodup_cons.mpr ⟨fun m => ?_, ih n2 fun m => hb (List.mem_cons_of_mem _ m)⟩
      rcases List.mem_or_eq_of_mem_set m with z | z
      · exact n1 z
      · exact hb (z ▸ List.mem_cons_self ..)
/-- a field's object stays where it is, what it owns may be other -/
theorem FsRep.swap {x : FD} {ws : List (Str × V)} (h : FsRep K B H fs ws F) : fget f fs = Option.some x → F.Nodup → ∃ v as, ws.lookup f = Option.some v ∧ FRep K B H x v as ∧ (∀ a ∈ as, a ∈ F) ∧ as.Nodup ∧
    ∀ (x' : FD) (as' : List Addr) (B' H' : Hp), (∀ w d, Dq K B w d → Dq K B' w d) → (∀ a ∈ F, a ∉ as → ∀ o, H a = Option.some o → NT o → H' a = Option.some o) → FRep K B' H' x' v as' → as'.Nodup → (∀ a ∈ as', a ∈ F → a ∈ as) →
      ∃ F', FsRep K B' H' (putD f x' fs) ws F' ∧ (∀ a ∈ F', a ∈ F ∨ a ∈ as') ∧ F'.Nodup := by
  induction h with
  | nil => exact fun e => by cases e
  | @cons g y u as0 fs ws G r t ih =>
    intro e nd
    obtain ⟨n1, n2, n3⟩ := List.nodup_append.mp nd
    unfold fget at e
    by_cases hg : g = f
    · rw [if_pos hg] at e
      cases e
      refine ⟨u, as0, lookup_hit hg, r, fun a ma => List.mem_append_left _ ma, n1, fun x' as' B' H' hd hh r' nd' hs => ?_⟩
      unfold putD
      rw [if_pos hg]
      refine ⟨as' ++ G, .cons r' (t.step hd fun a ma => hh a (List.mem_append_right _ ma) fun z => n3 a z a ma rfl), fun a ma => ?_, List.nodup_append.mpr ⟨nd', n2, fun a ma b mb eab => ?_⟩⟩
      · rcases List.mem_append.mp ma with z | z
        · exact .inr z
        · exact .inl (List.mem_append_right _ z)
      · subst eab
        exact n3 a (hs a ma (List.mem_append_right _ mb)) a mb rfl
    · rw [if_neg hg] at e
      obtain ⟨v, as, hl, hr, hs, hn, hput⟩ := ih e n2
      refine ⟨v, as, (lookup_miss hg).trans hl, hr, fun a ma => List.mem_append_right _ (hs a ma), hn, fun x' as' B' H' hd hh r' nd' hs' => ?_⟩
      obtain ⟨F', h1, h2, h3⟩ := hput x' as' B' H' hd (fun a ma mz => hh a (List.mem_append_right _ ma) mz) r' nd' fun a ma mg => hs' a ma (List.mem_append_right _ mg)
      unfold putD
      rw [if_neg hg]
      refine ⟨as0 ++ F', .cons (r.step hd fun a ma => hh a (List.mem_append_left _ ma) fun z => n3 a ma a (hs a z) rfl) h1, fun a ma => ?_, List.nodup_append.mpr ⟨n1, h3, fun a ma b mb eab => ?_⟩⟩
      · rcases List.mem_append.mp ma with z | z
        · exact .inl (List.mem_append_left _ z)
        · rcases h2 a z with z | z
          · exact .inl (List.mem_append_right _ z)
          · exact .inr z
      · subst eab
        rcases h2 a mb with z | z
        · exact n3 a ma a z rfl
        · exact n3 a ma a (hs a (hs' a z (List.mem_append_left _ ma))) rfl
theorem LRep.setNew {bs : List Addr} {k : Nat} {b : Addr} {vs : List V} (h : LRep K B H bs dss) (hv : H b = Option.some (.lst vs)) (hd : DqAll K B vs ds) : LRep K B H (bs.set k b) (dss.set k ds) := by
  induction h generalizing k with
  | nil => exact .nil
  | cons e q t ih =>
    cases k with
    | zero => exact .cons hv hd t
    | succ k => exact .cons e q ih
/-- o.f[k] = a new list -/
theorem wp_bigSetLL {k0 : Int} {k : Nat} (e : δ[i]? = some (hold K C p fs F)) (l : fget f fs = some (.ll dss)) (c : Cls K C) (n : NoAttr K C f) (h : EN K te δ ds) (hb : ED K tb δ (.int k0)) (hk : ixN dss.length k0 = some k)
    (q : ∀ F', E.nx (δ.set i (hold K C p (putD f (.ll (dss.set k ds)) fs) F'))) : WP K (tAsg te (gSub (tFld K (tVar i) f) tb L2.rSetL)) E δ := fun B0 H0 B H σ D L S =>
  h B0 H0 B H σ _ S fun b us B1 H1 s1 nb bb hb1 db => by
    have S1 := S.step s1
    obtain ⟨dx, ws, G, a1, hp, r, rfl, nd, hF⟩ := S1.slotBig e
    obtain ⟨n1, n2⟩ := List.nodup_cons.mp nd
    obtain ⟨v, as, hv, ⟨a, bs, rfl, rfl, ha, lr⟩, hs, hn, hsw⟩ := FsRep.swap r l n2
    refine ⟨_, a1, p, C, dx, ws, _, rfl, hp, c, n, hv, hb B0 H0 B1 H1 σ _ S1 fun w B2 H2 s2 y => ?_⟩
    cases Dq.int_inv y
    have S2 := S1.step s2
    obtain ⟨dx2, ws2, G2, a2, hp2, r2, eF, nd2, hF2⟩ := S2.slotBig e
    have eG : G = G2 := by injection eF
    subst eG
    rw [s2.hh.at hp] at hp2; cases hp2
    obtain ⟨v2, as2, hv2, ⟨a', bs', rfl, rfl, ha2, lr2⟩, hs2, hn2, hsw2⟩ := FsRep.swap r2 l n2
    rw [hv] at hv2; cases hv2
    have hb2 : H2 b = some (.lst us) := s2.hh.at hb1
    have bb2 : B2 b = none := s2.fr b (by rw [hb1]; exact fun z => nomatch z) bb
    have nbF : ∀ c ∈ p :: G, c ≠ b := fun c mc z => by
      subst z
      have S0 := S
      obtain ⟨dx0, ws0, G0, _, _, _, eF0, _, hF0⟩ := S0.slotBig e
      exact (hF0 c mc).1 nb
    have nba : a ≠ b := nbF a (List.mem_cons_of_mem _ (hs2 a (List.mem_cons_self ..)))
    refine ⟨a, bs'.map V.ref, k0, k, rfl, rfl, ha2, by rw [List.length_map, lr2.len]; exact hk, ?_⟩
    have am : a ∈ G := hs2 a (List.mem_cons_self ..)
    have h0b : H0 b = none := S.hist.hh.free nb
    have sam : ∀ c o, c ≠ a → H2 c = some o → upd H2 a (.lst ((bs'.map V.ref).set k (.ref b))) c = some o := fun c o hc ec => (upd_ne hc).trans ec
    have bsne : ∀ c ∈ bs', c ≠ a := fun c mc z => (List.nodup_cons.mp hn2).1 (z ▸ mc)
    obtain ⟨G', g1, g2, g3⟩ := hsw2 (.ll (dss.set k ds)) (a :: bs'.set k b) B2 (upd H2 a (.lst ((bs'.map V.ref).set k (.ref b)))) (fun _ _ z => z) (fun c mc nc o ec _ => sam c o (fun z => nc (z ▸ List.mem_cons_self ..)) ec)
      ⟨a, bs'.set k b, rfl, rfl, by rw [upd_same, List.map_set], (LRep.step (fun _ _ z => z) lr2 fun c mc o ec _ => sam c o (bsne c mc) ec).setNew (sam b _ (Ne.symm nba) hb2) (DqAll.up s2.bb _ _ db)⟩
      (List.nodup_cons.mpr ⟨fun m => by
        rcases List.mem_or_eq_of_mem_set m with z | z
        · exact (List.nodup_cons.mp hn2).1 z
        · exact nba z, nodup_set (List.nodup_cons.mp hn2).2 fun m => nbF b (List.mem_cons_of_mem _ (hs2 b (List.mem_cons_of_mem _ m))) rfl⟩)
      (fun c mc mG => by
        rcases List.mem_cons.mp mc with rfl | mc
        · exact List.mem_cons_self ..
        · rcases List.mem_or_eq_of_mem_set mc with z | z
          · exact List.mem_cons_of_mem _ z
          · exact absurd z (nbF c (List.mem_cons_of_mem _ mG)))
    have memG : ∀ c ∈ G', c ∈ G ∨ c = b := fun c mc => by
      rcases g2 c mc with z | z
      · exact .inl z
      · rcases List.mem_cons.mp z with rfl | z
        · exact .inl am
        · rcases List.mem_or_eq_of_mem_set z with z | z
          · exact .inl (hs2 c (List.mem_cons_of_mem _ z))
          · exact .inr z
    have np : p ∉ G' := fun m => (memG p m).elim (List.nodup_cons.mp nd2).1 fun z => nbF p (List.mem_cons_self ..) z
    have pa : p ≠ a := fun z => (List.nodup_cons.mp nd2).1 (z ▸ am)
    refine L.nx _ _ B2 _ (S2.bigTo (F' := p :: G') (R' := BigR K C p (putD f (.ll (dss.set k ds)) fs) (p :: G')) e ⟨Sam.refl _, ⟨fun c o ec => ?_, S2.hist.bh.tb.upd (.inr ⟨_, ha2, nt_lst⟩) nt_lst.1⟩, fun c o ec nc => ⟨o, sam c o (fun z => nc (z ▸ List.mem_cons_of_mem _ am)) ec, fun _ => rfl⟩, fun c _ _ z => z⟩ (fun c mc => ?_) (fun u eu => ?_) BigR.stab) (q (p :: G'))
    · have : c ≠ a := fun z => by subst z; rw [(hF2 c (List.mem_cons_of_mem _ am)).2.1] at ec; cases ec
      rw [upd_ne this]; exact S2.hist.bh.sm _ _ ec
    · have stays : H2 c ≠ none → upd H2 a (.lst ((bs'.map V.ref).set k (.ref b))) c ≠ none := fun hc => by
        by_cases z : c = a
        · rw [z, upd_same]; exact fun z => nomatch z
        · rw [upd_ne z]; exact hc
      rcases List.mem_cons.mp mc with rfl | mc
      · obtain ⟨h1, h2, h3⟩ := hF2 c (List.mem_cons_self ..)
        exact ⟨stays h1, h2, h3, .inl (List.mem_cons_self ..)⟩
      · rcases memG c mc with z | rfl
        · obtain ⟨h1, h2, h3⟩ := hF2 c (List.mem_cons_of_mem _ z)
          exact ⟨stays h1, h2, h3, .inl (List.mem_cons_of_mem _ z)⟩
        · exact ⟨stays (by rw [hb2]; exact fun z => nomatch z), bb2, h0b, .inr fun j t o _ e1 e2 => new_foot (S := S) nb j t o e1 e2⟩
    · rw [a2] at eu; cases eu
      exact ⟨rfl, dx, ws, G', (upd_ne pa).trans (s2.hh.at hp), g1, rfl, List.nodup_cons.mpr ⟨np, g3⟩⟩
end
end DX

namespace DX
open PySem L2
variable [TabEnv]
/-! ### a row of an object's list under a name of its own -/
section
variable {K : PySem.W.Frag} {B0 H0 B H B' H' : Hp} {σ : L2.St} {δ δ' : List SV} {ta tb tc te : TE} {tt : TT} {t : TS} {d x y : D} {ds es : List D} {dss : List (List D)} {E : EndsD} {C p b : Addr} {bs : List Addr} {fs fs' : FM} {F F' : List Addr} {i j k : Nat} {f m : Str} {tr : Bool}
theorem Sd.reFld {x x' : FD} (S : Sd K B0 H0 B H σ δ) (e : δ[i]? = some (hold K C p fs F)) (l : fget f fs = some x) (hx : ∀ v as, FRep K B H x v as → FRep K B H x' v as) : Sd K B0 H0 B H σ (δ.set i (hold K C p (putD f x' fs) F)) := by
  obtain ⟨dx, ws, G, a1, hp, r, rfl, nd, hF⟩ := S.slotBig e
  obtain ⟨v, as, hl, hr, hs, hn, hput⟩ := r.get l (List.nodup_cons.mp nd).2
  have r' := hput x' B H (fun _ _ z => z) (fun _ _ _ o e _ => e) (hx v as hr)
  exact S.bigTo e ⟨Sam.refl _, S.hist.bh, fun a o e _ => ⟨o, e, fun _ => rfl⟩, fun _ _ _ z => z⟩ (fun a ma => ⟨(hF a ma).1, (hF a ma).2.1, (hF a ma).2.2, .inl ma⟩) (fun v ev => by
    rw [a1] at ev; cases ev
    exact ⟨rfl, dx, ws, G, hp, r', rfl, nd⟩) BigR.stab
/-- the rows' addresses are named -/
theorem wp_open (e : δ[i]? = some (hold K C p fs F)) (l : fget f fs = some (.ll dss)) (h : ∀ bs : List Addr, bs.length = dss.length → WP K t E (δ.set i (hold K C p (putD f (.la bs dss) fs) F))) : WP K t E δ := fun B0 H0 B H σ D L S => by
  obtain ⟨dx, ws, G, a1, hp, r, rfl, nd, hF⟩ := S.slotBig e
  obtain ⟨v, as, hl, ⟨a, bs, rfl, rfl, ha, lr⟩, hs, hn, hput⟩ := r.get l (List.nodup_cons.mp nd).2
  have r' := hput (.la bs dss) B H (fun _ _ z => z) (fun _ _ _ o e _ => e) ⟨a, rfl, rfl, ha, lr⟩
  refine h bs lr.len B0 H0 B H σ D L ?_
  exact S.bigTo e ⟨Sam.refl _, S.hist.bh, fun a o e _ => ⟨o, e, fun _ => rfl⟩, fun _ _ _ z => z⟩ (fun a ma => ⟨(hF a ma).1, (hF a ma).2.1, (hF a ma).2.2, .inl ma⟩) (fun v ev => by
    rw [a1] at ev; cases ev
    exact ⟨rfl, dx, ws, G, hp, r', rfl, nd⟩) BigR.stab
/-- .. and forgotten -/
theorem wp_close (e : δ[i]? = some (hold K C p fs F)) (l : fget f fs = some (.la bs dss)) (h : WP K t E (δ.set i (hold K C p (putD f (.ll dss) fs) F))) : WP K t E δ := fun B0 H0 B H σ D L S =>
  h B0 H0 B H σ D L (S.reFld e l fun v as ⟨a, e1, e2, e3, e4⟩ => ⟨a, bs, e1, e2, e3, e4⟩)
/-- a slot that holds the address b -/
abbrev adr (b : Addr) : SV := .big (fun _ _ v => v = .ref b) []
theorem adr_ok : SlotOk K B H H0 (some (.ref b)) (adr b) := ⟨_, rfl, rfl, fun _ _ _ _ _ h _ _ => h, fun a ma => by cases ma⟩
theorem Sd.slotLA (S : Sd K B0 H0 B H σ δ) (e : δ[i]? = some (hold K C p fs F)) (l : fget f fs = some (.la bs dss)) : ∃ (dx : Addr) (ws : List (Str × V)) (a : Addr), σ[i]? = some (some (.ref p)) ∧ H p = some (.ins C dx ws) ∧ ws.lookup f = some (.ref a) ∧ H a = some (.lst (bs.map V.ref)) ∧ LRep K B H bs dss ∧ ∀ c ∈ bs, c ∈ F ∧ c ≠ p := by
  obtain ⟨dx, ws, G, a1, hp, r, rfl, nd, hF⟩ := S.slotBig e
  obtain ⟨n1, n2⟩ := List.nodup_cons.mp nd
  obtain ⟨v, as, hl, ⟨a, rfl, rfl, ha, lr⟩, hs, hn, hput⟩ := r.get l n2
  exact ⟨dx, ws, a, a1, hp, hl, ha, lr, fun c mc => ⟨List.mem_cons_of_mem _ (hs c (List.mem_cons_of_mem _ mc)), fun z => n1 (z ▸ hs c (List.mem_cons_of_mem _ mc))⟩⟩
/-- row = o.f[k] -/
theorem wp_asgAl {k0 : Int} (e : δ[i]? = some (hold K C p fs F)) (l : fget f fs = some (.la bs dss)) (c : Cls K C) (n : NoAttr K C f) (hb : ED K tb δ (.int k0)) (hk : ixN bs.length k0 = some k) (hb2 : bs[k]? = some b) (q : E.nx (δ.set j (adr b))) :
    WP K (tAsg (tOp (rIx K) (tFld K (tVar i) f) tb) (gName j)) E δ := fun B0 H0 B H σ D L S => by
  obtain ⟨dx, ws, a, a1, hp, hl, ha, lr, _⟩ := S.slotLA e l
  refine ⟨_, a1, p, C, dx, ws, _, rfl, hp, c, n, hl, hb B0 H0 B H σ _ S fun w B2 H2 s2 y => ?_⟩
  cases Dq.int_inv y
  have it : atI (bs.map V.ref) k0 = some (.ref b) := by
    unfold atI
    rw [List.length_map, hk]
    show (bs.map V.ref)[k]? = _
    rw [List.getElem?_map, hb2]; rfl
  exact .inl ⟨_, _, k0, _, rfl, rfl, .inl (.inl (s2.hh.at ha)), it, L.nx _ _ B2 _ ((S.step s2).set adr_ok fun _ z => by cases z) q⟩
theorem LRep.nth {bs : List Addr} {dss : List (List D)} (h : LRep K B H bs dss) : ∀ {k : Nat}, bs[k]? = Option.some b → dss[k]? = Option.some ds → ∃ vs, H b = Option.some (.lst vs) ∧ DqAll K B vs ds := by
  induction h with
  | nil => intro k e; cases k <;> cases e
  | cons e q _ ih =>
    intro k e1 e2
    cases k with
    | zero => cases e1; cases e2; exact ⟨_, e, q⟩
    | succ k => exact ih e1 e2
theorem Sd.reSlot {v : V} (S : Sd K B0 H0 B H σ δ) (hj : σ[j]? = some (some v)) (h : Dq K B v d) : Sd K B0 H0 B H σ (δ.set j (.val d)) := by
  have := S.setVal (i := j) h
  have e : σ.set j (some v) = σ := by
    apply List.ext_getElem?
    intro k
    by_cases hk : j = k
    · subst hk
      rw [List.getElem?_set_self (List.getElem?_eq_some_iff.mp hj).1, hj]
    · rw [List.getElem?_set_ne hk]
  rw [e] at this
  exact this
/-- the object is only read, and so is the row -/
theorem Sd.frzRow (S : Sd K B0 H0 B H σ δ) (e : δ[i]? = some (hold K C p fs F)) (hd : (fs.map Prod.fst).Nodup) (l : fget f fs = some (.la bs dss)) (ij : i ≠ j) (ej : δ[j]? = some (adr b)) (hb : bs[k]? = some b) (hk : dss[k]? = some ds) :
    ∃ G : List Addr, F = p :: G ∧ (∀ a ∈ G, B a = none ∧ H a ≠ none) ∧ Sam B (frzB G B H) ∧ Sd K B0 H0 (frzB G B H) H σ ((δ.set i (.ob C (kn fs))).set j (.val (.list ds))) := by
  obtain ⟨dx, ws, a, a1, hp, hl, ha, lr, hin⟩ := S.slotLA e l
  obtain ⟨G, rfl, hG, k1, _, S'⟩ := S.frzBig e hd
  obtain ⟨vs, hv, dv⟩ := lr.nth hb hk
  obtain ⟨o, eo, v, rfl, rfl, _⟩ := S.ok j _ ej
  refine ⟨G, rfl, hG, k1, S'.reSlot eo (.lst (.inl (.inl ?_)) (DqAll.up k1 _ _ dv))⟩
  obtain ⟨m1, m2⟩ := hin b (List.mem_of_getElem? hb)
  have mG : b ∈ G := (List.mem_cons.mp m1).resolve_left m2
  exact (if_pos mG).trans hv
theorem ed_row (e : δ[i]? = some (hold K C p fs F)) (hd : (fs.map Prod.fst).Nodup) (l : fget f fs = some (.la bs dss)) (ij : i ≠ j) (ej : δ[j]? = some (adr b)) (hb : bs[k]? = some b) (hk : dss[k]? = some ds) (hs : Pln d) (h : ED K te ((δ.set i (.ob C (kn fs))).set j (.val (.list ds))) d) : ED K te δ d := fun B0 H0 B H σ Q S q => by
  obtain ⟨G, rfl, hG, k1, S'⟩ := S.frzRow e hd l ij ej hb hk
  exact h B0 H0 _ H σ Q S' fun v B2 H2 s dv => q v (wo G B2) H2 (Stp.thawB hG k1 s) (hs.dq dv)
theorem et_row (e : δ[i]? = some (hold K C p fs F)) (hd : (fs.map Prod.fst).Nodup) (l : fget f fs = some (.la bs dss)) (ij : i ≠ j) (ej : δ[j]? = some (adr b)) (hb : bs[k]? = some b) (hk : dss[k]? = some ds) (h : ET K tt ((δ.set i (.ob C (kn fs))).set j (.val (.list ds))) tr) : ET K tt δ tr := fun B0 H0 B H σ Q S q => by
  obtain ⟨G, rfl, hG, k1, S'⟩ := S.frzRow e hd l ij ej hb hk
  exact h B0 H0 _ H σ Q S' fun B2 H2 s => q (wo G B2) H2 (Stp.thawB hG k1 s)
theorem en_row (e : δ[i]? = some (hold K C p fs F)) (hd : (fs.map Prod.fst).Nodup) (l : fget f fs = some (.la bs dss)) (ij : i ≠ j) (ej : δ[j]? = some (adr b)) (hb : bs[k]? = some b) (hk : dss[k]? = some ds) (hs : ∀ d ∈ es, Pln d) (h : EN K te ((δ.set i (.ob C (kn fs))).set j (.val (.list ds))) es) : EN K te δ es := fun B0 H0 B H σ Q S q => by
  obtain ⟨G, rfl, hG, k1, S'⟩ := S.frzRow e hd l ij ej hb hk
  exact h B0 H0 _ H σ Q S' fun l vs B2 H2 s nl bl hl da => q l vs (wo G B2) H2 (Stp.thawB hG k1 s) nl (by rw [wo_out (frz_new hG nl)]; exact bl) hl (Pln.all hs da)
/-- o.f[k] = a new list, the rows' addresses named -/
theorem wp_bigSetLA {k0 : Int} {k : Nat} (e : δ[i]? = some (hold K C p fs F)) (l : fget f fs = some (.la bs dss)) (c : Cls K C) (n : NoAttr K C f) (h : EN K te δ ds) (hb : ED K tb δ (.int k0)) (hk : ixN dss.length k0 = some k)
    (q : ∀ F', E.nx (δ.set i (hold K C p (putD f (.ll (dss.set k ds)) fs) F'))) : WP K (tAsg te (gSub (tFld K (tVar i) f) tb L2.rSetL)) E δ := fun B0 H0 B H σ D L S =>
  h B0 H0 B H σ _ S fun b us B1 H1 s1 nb bb hb1 db => by
    have S1 := S.step s1
    obtain ⟨dx, ws, G, a1, hp, r, rfl, nd, hF⟩ := S1.slotBig e
    obtain ⟨n1, n2⟩ := List.nodup_cons.mp nd
    obtain ⟨v, as, hv, ⟨a, rfl, rfl, ha, lr⟩, hs, hn, hsw⟩ := FsRep.swap r l n2
    refine ⟨_, a1, p, C, dx, ws, _, rfl, hp, c, n, hv, hb B0 H0 B1 H1 σ _ S1 fun w B2 H2 s2 y => ?_⟩
    cases Dq.int_inv y
    have S2 := S1.step s2
    obtain ⟨dx2, ws2, G2, a2, hp2, r2, eF, nd2, hF2⟩ := S2.slotBig e
    have eG : G = G2 := by injection eF
    subst eG
    rw [s2.hh.at hp] at hp2; cases hp2
    obtain ⟨v2, as2, hv2, ⟨a', rfl, rfl, ha2, lr2⟩, hs2, hn2, hsw2⟩ := FsRep.swap r2 l n2
    rw [hv] at hv2; cases hv2
    have hb2 : H2 b = some (.lst us) := s2.hh.at hb1
    have bb2 : B2 b = none := s2.fr b (by rw [hb1]; exact fun z => nomatch z) bb
    have nbF : ∀ c ∈ p :: G, c ≠ b := fun c mc z => by
      subst z
      have S0 := S
      obtain ⟨dx0, ws0, G0, _, _, _, eF0, _, hF0⟩ := S0.slotBig e
      exact (hF0 c mc).1 nb
    have nba : a ≠ b := nbF a (List.mem_cons_of_mem _ (hs2 a (List.mem_cons_self ..)))
    refine ⟨a, bs.map V.ref, k0, k, rfl, rfl, ha2, by rw [List.length_map, lr2.len]; exact hk, ?_⟩
    have am : a ∈ G := hs2 a (List.mem_cons_self ..)
    have h0b : H0 b = none := S.hist.hh.free nb
    have sam : ∀ c o, c ≠ a → H2 c = some o → upd H2 a (.lst ((bs.map V.ref).set k (.ref b))) c = some o := fun c o hc ec => (upd_ne hc).trans ec
    have bsne : ∀ c ∈ bs, c ≠ a := fun c mc z => (List.nodup_cons.mp hn2).1 (z ▸ mc)
    obtain ⟨G', g1, g2, g3⟩ := hsw2 (.ll (dss.set k ds)) (a :: bs.set k b) B2 (upd H2 a (.lst ((bs.map V.ref).set k (.ref b)))) (fun _ _ z => z) (fun c mc nc o ec _ => sam c o (fun z => nc (z ▸ List.mem_cons_self ..)) ec)
      ⟨a, bs.set k b, rfl, rfl, by rw [upd_same, List.map_set], (LRep.step (fun _ _ z => z) lr2 fun c mc o ec _ => sam c o (bsne c mc) ec).setNew (sam b _ (Ne.symm nba) hb2) (DqAll.up s2.bb _ _ db)⟩
      (List.nodup_cons.mpr ⟨fun m => by
        rcases List.mem_or_eq_of_mem_set m with z | z
        · exact (List.nodup_cons.mp hn2).1 z
        · exact nba z, nodup_set (List.nodup_cons.mp hn2).2 fun m => nbF b (List.mem_cons_of_mem _ (hs2 b (List.mem_cons_of_mem _ m))) rfl⟩)
      (fun c mc mG => by
        rcases List.mem_cons.mp mc with rfl | mc
        · exact List.mem_cons_self ..
        · rcases List.mem_or_eq_of_mem_set mc with z | z
          · exact List.mem_cons_of_mem _ z
          · exact absurd z (nbF c (List.mem_cons_of_mem _ mG)))
    have memG : ∀ c ∈ G', c ∈ G ∨ c = b := fun c mc => by
      rcases g2 c mc with z | z
      · exact .inl z
      · rcases List.mem_cons.mp z with rfl | z
        · exact .inl am
        · rcases List.mem_or_eq_of_mem_set z with z | z
          · exact .inl (hs2 c (List.mem_cons_of_mem _ z))
          · exact .inr z
    have np : p ∉ G' := fun m => (memG p m).elim (List.nodup_cons.mp nd2).1 fun z => nbF p (List.mem_cons_self ..) z
    have pa : p ≠ a := fun z => (List.nodup_cons.mp nd2).1 (z ▸ am)
    refine L.nx _ _ B2 _ (S2.bigTo (F' := p :: G') (R' := BigR K C p (putD f (.ll (dss.set k ds)) fs) (p :: G')) e ⟨Sam.refl _, ⟨fun c o ec => ?_, S2.hist.bh.tb.upd (.inr ⟨_, ha2, nt_lst⟩) nt_lst.1⟩, fun c o ec nc => ⟨o, sam c o (fun z => nc (z ▸ List.mem_cons_of_mem _ am)) ec, fun _ => rfl⟩, fun c _ _ z => z⟩ (fun c mc => ?_) (fun u eu => ?_) BigR.stab) (q (p :: G'))
    · have : c ≠ a := fun z => by subst z; rw [(hF2 c (List.mem_cons_of_mem _ am)).2.1] at ec; cases ec
      rw [upd_ne this]; exact S2.hist.bh.sm _ _ ec
    · have stays : H2 c ≠ none → upd H2 a (.lst ((bs.map V.ref).set k (.ref b))) c ≠ none := fun hc => by
        by_cases z : c = a
        · rw [z, upd_same]; exact fun z => nomatch z
        · rw [upd_ne z]; exact hc
      rcases List.mem_cons.mp mc with rfl | mc
      · obtain ⟨h1, h2, h3⟩ := hF2 c (List.mem_cons_self ..)
        exact ⟨stays h1, h2, h3, .inl (List.mem_cons_self ..)⟩
      · rcases memG c mc with z | rfl
        · obtain ⟨h1, h2, h3⟩ := hF2 c (List.mem_cons_of_mem _ z)
          exact ⟨stays h1, h2, h3, .inl (List.mem_cons_of_mem _ z)⟩
        · exact ⟨stays (by rw [hb2]; exact fun z => nomatch z), bb2, h0b, .inr fun j t o _ e1 e2 => new_foot (S := S) nb j t o e1 e2⟩
    · rw [a2] at eu; cases eu
      exact ⟨rfl, dx, ws, G', (upd_ne pa).trans (s2.hh.at hp), g1, rfl, List.nodup_cons.mpr ⟨np, g3⟩⟩
end
end DX

namespace DX
open PySem L2
variable [TabEnv]
section
variable {K : PySem.W.Frag} {δ : List SV} {te : TE} {C p : Addr} {fs : FM} {F : List Addr} {i : Nat}
/-- a reading of an object that changes, frozen for the while -/
theorem ep_frz {P : D → Prop} (e : δ[i]? = some (hold K C p fs F)) (hn : NoM fs) (hd : (fs.map Prod.fst).Nodup) (h : EP K te (δ.set i (.ob C (kn fs))) P) (ht : ∀ d, P d → Thin d) : EP K te δ P := fun B0 H0 B H σ Q S q => by
  obtain ⟨G, rfl, hG, k1, hl, S'⟩ := S.frzBig e hd
  refine h B0 H0 _ H σ Q S' fun v B2 H2 d s dv pd => q v (wo G B2) H2 d (Stp.thawB hG k1 s) ((ht d pd).off (fun a ma => ?_) dv) pd
  obtain ⟨vs, ev⟩ := hl hn a ma
  exact ⟨vs, s.bb.at ((if_pos ma).trans ev)⟩
end
end DX

namespace DX
open PySem L2
variable [TabEnv]
section
variable {K : PySem.W.Frag} {B0 H0 B H B' H' : Hp} {σ : L2.St} {δ δ' : List SV} {ta tb te : TE} {t : TS} {d : D} {ds : List D} {dss : List (List D)} {x : FD} {F : List Addr} {i : Nat} {E : EndsD} {b : Bool}
/-! ### a list that is written beside a frame's slots -/
theorem Sd.inL {L : Addr} {vs : List V} (S : Sd K B0 H0 B H σ δ) (hL : H L = some (.lst vs)) (bL : B L = none) (hf : ∀ (j : Nat) (t : SV) (q : Option V), δ[j]? = some t → σ[j]? = some q → L ∉ foot t q) : Sd K B0 (upd H0 L (.lst vs)) B H σ δ := by
  refine ⟨⟨S.hist.bb, S.hist.bh, fun a o ea => ?_, fun a q z => ?_⟩, S.len, fun j s ej => ?_, S.apart⟩
  · by_cases h : a = L
    · subst h; rw [upd_same] at ea; cases ea; exact ⟨_, hL, fun _ => rfl⟩
    · rw [upd_ne h] at ea; exact S.hist.hh a o ea
  · by_cases h : a = L
    · subst h; exact bL
    · rw [upd_ne h] at q; exact S.hist.fr a q z
  · obtain ⟨o, eo, ok⟩ := S.ok j s ej
    have aw := hf j s o ej eo
    refine ⟨o, eo, ?_⟩
    cases s with
    | no => exact True.intro
    | val d => exact ok
    | ob C fs => exact ok
    | own xo =>
      obtain ⟨pp, us, rfl, h1, h2, h3, h4⟩ := ok
      have : pp ≠ L := fun z => aw (List.mem_singleton.mpr z.symm)
      exact ⟨pp, us, rfl, h1, h2, by rw [upd_ne this]; exact h3, h4⟩
    | big R F =>
      obtain ⟨v, e, r, st, ha⟩ := ok
      refine ⟨v, e, r, st, fun a ma => ?_⟩
      obtain ⟨h1, h2, h3⟩ := ha a ma
      have : a ≠ L := fun z => aw (z ▸ ma)
      exact ⟨h1, h2, by rw [upd_ne this]; exact h3⟩
theorem Sd.outL {L : Addr} {vs : List V} (S : Sd K B0 H0 B H σ δ) (h0 : H0 L ≠ none) (hL : H L = some (.lst vs)) : ∀ (j : Nat) (t : SV) (q : Option V), δ[j]? = some t → σ[j]? = some q → L ∉ foot t q := fun j t q ej eq m => by
  obtain ⟨o, eo, ok⟩ := S.ok j t ej
  rw [eq] at eo; cases eo
  cases t with
  | no => cases m
  | val d => cases m
  | ob C fs =>
    obtain ⟨pp, dx, ws, rfl, hp, _⟩ := ok
    rw [List.mem_singleton.mp m] at hL
    rw [hL] at hp; cases hp
  | own xo =>
    obtain ⟨pp, us, rfl, _, _, h3, _⟩ := ok
    rw [List.mem_singleton.mp m] at h0
    exact h0 h3
  | big R F =>
    obtain ⟨v, e, r, st, ha⟩ := ok
    exact h0 (ha L m).2.2
theorem Sd.setL {L : Addr} {vs ws : List V} (S : Sd K B0 H0 B H σ δ) (h0 : H0 L = some (.lst vs)) (hL : H L = some (.lst vs)) (bL : B L = none) : Sd K B0 (upd H0 L (.lst ws)) B (upd H L (.lst ws)) σ δ := by
  have hf := S.outL (by rw [h0]; exact fun z => nomatch z) hL
  refine ⟨⟨S.hist.bb, ⟨fun a o ea => ?_, S.hist.bh.tb.upd (.inr ⟨_, hL, nt_lst⟩) nt_lst.1⟩, fun a o ea => ?_, fun a q z => ?_⟩, S.len, fun j s ej => ?_, S.apart⟩
  · have : a ≠ L := fun z => by subst z; rw [bL] at ea; cases ea
    rw [upd_ne this]; exact S.hist.bh.sm _ _ ea
  · by_cases h : a = L
    · subst h; rw [upd_same] at ea ⊢; exact ⟨_, ea, fun _ => rfl⟩
    · rw [upd_ne h] at ea ⊢; exact S.hist.hh a o ea
  · by_cases h : a = L
    · subst h; exact bL
    · rw [upd_ne h] at q; exact S.hist.fr a q z
  · obtain ⟨o, eo, ok⟩ := S.ok j s ej
    have aw := hf j s o ej eo
    refine ⟨o, eo, ?_⟩
    cases s with
    | no => exact True.intro
    | val d => exact ok
    | ob C fs =>
      obtain ⟨pp, dx, us, rfl, hp, r⟩ := ok
      have : pp ≠ L := fun z => aw (List.mem_singleton.mpr z.symm)
      exact ⟨pp, dx, us, rfl, by rw [upd_ne this]; exact hp, r⟩
    | own xo =>
      obtain ⟨pp, us, rfl, h1, h2, h3, h4⟩ := ok
      have : pp ≠ L := fun z => aw (List.mem_singleton.mpr z.symm)
      exact ⟨pp, us, rfl, by rw [upd_ne this]; exact h1, h2, by rw [upd_ne this]; exact h3, h4⟩
    | big R F =>
      obtain ⟨v, e, r, st, ha⟩ := ok
      have hne : ∀ a ∈ F, a ≠ L := fun a ma z => aw (z ▸ ma)
      refine ⟨v, e, st _ _ _ _ v r (fun w d z => z) (fun a ma o eo _ => by rw [upd_ne (hne a ma)]; exact eo), st, fun a ma => ?_⟩
      obtain ⟨h1, h2, h3⟩ := ha a ma
      exact ⟨by rw [upd_ne (hne a ma)]; exact h1, h2, by rw [upd_ne (hne a ma)]; exact h3⟩
theorem flat_take_succ {α β : Type} {f : α → List β} {xs : List α} {i : Nat} {x : α} (h : xs[i]? = some x) : (xs.take (i + 1)).flatMap f = (xs.take i).flatMap f ++ f x := by
  rw [List.take_add_one, h, List.flatMap_append]
  show _ ++ [x].flatMap f = _
  rw [List.flatMap_singleton]
theorem flat_take_len {α β : Type} {f : α → List β} {xs : List α} {M : Nat} (h : ∀ x ∈ xs, (f x).length ≤ M) : ∀ i, ((xs.take i).flatMap f).length ≤ xs.length * M := fun i => by
  rw [List.length_flatMap]
  have : ∀ l : List α, (∀ x ∈ l, (f x).length ≤ M) → (l.map fun x => (f x).length).sum ≤ l.length * M := fun l => by
    induction l with
    | nil => intro _; exact Nat.zero_le _
    | cons a l ih =>
      intro hl
      rw [List.map_cons, List.sum_cons, List.length_cons, Nat.succ_mul]
      have := ih fun x mx => hl x (List.mem_cons_of_mem _ mx)
      have := hl a (List.mem_cons_self ..)
      omega
  have h1 := this (xs.take i) fun x mx => h x (List.mem_of_mem_take mx)
  have h2 : (xs.take i).length * M ≤ xs.length * M := Nat.mul_le_mul_right _ (by rw [List.length_take]; omega)
  omega
/-- [elt for .. for ..], the second source may hang on the first target -/
theorem en_lc22 {α β : Type} {xs : List α} {ys : α → List β} {gd : α → D} {gd1 : β → D} {wi wi1 : TI} {g g1 : TG} {vs vs1 : List Nat} {f : α → β → D} {af : α → List SV} {af1 : α → β → List SV} {M : Nat} (hw : EI K wi δ (xs.map gd)) (hM : ∀ x ∈ xs, (ys x).length ≤ M) (hl : xs.length * M < sizeLine)
    (hg : ∀ x, x ∈ xs → GW K g vs (wipeD δ vs) (gd x) (af x)) (hw1 : ∀ x, x ∈ xs → EI K wi1 (af x) ((ys x).map gd1)) (hg1 : ∀ x, x ∈ xs → ∀ y, y ∈ ys x → GW K g1 vs1 (wipeD (af x) vs1) (gd1 y) (af1 x y))
    (he : ∀ x, x ∈ xs → ∀ y, y ∈ ys x → ED K te (af1 x y) (f x y)) : EN K (tLc2 wi g tYes wi1 g1 tYes te vs vs1) δ (xs.flatMap fun x => (ys x).map (f x)) := fun B0 H0 B H σ Q S q =>
  hw B0 H0 B H σ _ S fun J B1 H1 s1 yd L nL => by
    have S1 := S.step s1
    have hfoot := new_foot (S := S1) nL
    have h0L := S1.hist.hh.free nL
    have fl : ∀ x ∈ xs, ((ys x).map (f x)).length ≤ M := fun x mx => by rw [List.length_map]; exact hM x mx
    refine ⟨fun k m H' => m = xs.length - k ∧ k ≤ xs.length ∧ ∃ B' acc, Sd K B1 H0 B' H' σ δ ∧ B' L = none ∧ H' L = some (.lst acc) ∧ DqAll K B' acc ((xs.take k).flatMap fun x => (ys x).map (f x)) ∧ Stp B1 H1 B' H', ⟨_, rfl, Nat.zero_le _, B1, [], ?_, s1.bh.free nL, upd_same, ?_, .newOwn s1.bh nL⟩, ?_⟩
    · exact (S1.past S1.hist.bb (Sam.refl _)).step (.newOwn s1.bh nL)
    · rw [List.take_zero]; exact .nil
    rintro k m H' ⟨rfl, hk, B', acc, S', bL, hL, hA, sp⟩
    obtain ⟨y1, y2⟩ := yd B' H' k S'.hist.bb S'.hist.bh
    by_cases hlt : k < xs.length
    · obtain ⟨go, yy⟩ := y1 (by rw [List.length_map]; exact hlt)
      refine .inr ⟨go, fun H'' => ∃ B'' acc, Sd K B1 H0 B'' H'' σ δ ∧ B'' L = none ∧ H'' L = some (.lst acc) ∧ DqAll K B'' acc ((xs.take (k + 1)).flatMap fun x => (ys x).map (f x)) ∧ Stp B1 H1 B'' H'', fun H'' z => ⟨xs.length - (k + 1), by omega, rfl, hlt, z⟩, fun x H2 yl => ?_⟩
      obtain ⟨B2, d', s2, ed', dp⟩ := yy x H2 yl
      have ed : xs[k]? = some xs[k] := List.getElem?_eq_getElem hlt
      have eg : d' = gd xs[k] := by
        rw [List.getElem?_map, ed] at ed'
        exact (Option.some.inj ed').symm
      subst eg
      have hm : xs[k] ∈ xs := List.getElem_mem hlt
      have hLne : H' L ≠ none := by rw [hL]; exact fun z => nomatch z
      have S2 := S'.step s2
      have hL2 : H2 L = some (.lst acc) := s2.hh.at hL
      have bL2 : B2 L = none := s2.fr L hLne bL
      have S2w : Sd K B1 (upd H0 L (.lst acc)) B2 H2 σ δ := S2.inL hL2 bL2 hfoot
      refine hg xs[k] hm B1 (upd H0 L (.lst acc)) B2 H2 _ _ _ (S2w.wipe vs) dp fun σ3 S3 ew => ⟨ew.trans wipe_wipe, tyes_true ?_⟩
      rw [if_pos rfl]
      refine hw1 xs[k] hm B1 (upd H0 L (.lst acc)) B2 H2 σ3 _ S3 fun J1 B4 H4 s4 yd1 => ?_
      have hL4 : H4 L = some (.lst acc) := s4.hh.at hL2
      have bL4 : B4 L = none := s4.fr L (by rw [hL2]; exact fun z => nomatch z) bL2
      refine ⟨fun j n H5 => n = (ys xs[k]).length - j ∧ j ≤ (ys xs[k]).length ∧ ∃ B5 acc5, Sd K B1 H0 B5 H5 σ δ ∧ Sd K B4 (upd H0 L (.lst acc5)) B5 H5 σ3 (af xs[k]) ∧ B5 L = none ∧ H5 L = some (.lst acc5) ∧ DqAll K B5 acc5 (((xs.take k).flatMap fun x => (ys x).map (f x)) ++ ((ys xs[k]).take j).map (f xs[k])) ∧ Stp B1 H1 B5 H5,
        ⟨_, rfl, Nat.zero_le _, B4, acc, S2.step s4, ((S3.step s4).past (S3.step s4).hist.bb (Sam.refl _)), bL4, hL4, ?_, (sp.trans s2).trans s4⟩, ?_⟩
      · rw [List.take_zero, List.map_nil, List.append_nil]
        exact DqAll.up (s2.trans s4).bb _ _ hA
      rintro j n H5 ⟨rfl, hj, B5, acc5, S5, T5, bL5, hL5, hA5, sp5⟩
      obtain ⟨z1, z2⟩ := yd1 B5 H5 j T5.hist.bb S5.hist.bh
      by_cases hjl : j < (ys xs[k]).length
      · obtain ⟨go1, yy1⟩ := z1 (by rw [List.length_map]; exact hjl)
        refine .inr ⟨go1, fun H6 => ∃ B6 acc6, Sd K B1 H0 B6 H6 σ δ ∧ Sd K B4 (upd H0 L (.lst acc6)) B6 H6 σ3 (af xs[k]) ∧ B6 L = none ∧ H6 L = some (.lst acc6) ∧ DqAll K B6 acc6 (((xs.take k).flatMap fun x => (ys x).map (f x)) ++ ((ys xs[k]).take (j + 1)).map (f xs[k])) ∧ Stp B1 H1 B6 H6, fun H6 z => ⟨(ys xs[k]).length - (j + 1), by omega, rfl, hjl, z⟩, fun x5 H6 yl5 => ?_⟩
        obtain ⟨B6, d6, s6, ed6, dp6⟩ := yy1 x5 H6 yl5
        have ey : (ys xs[k])[j]? = some (ys xs[k])[j] := List.getElem?_eq_getElem hjl
        have eg6 : d6 = gd1 (ys xs[k])[j] := by
          rw [List.getElem?_map, ey] at ed6
          exact (Option.some.inj ed6).symm
        subst eg6
        have hm1 : (ys xs[k])[j] ∈ ys xs[k] := List.getElem_mem hjl
        have T6 := T5.step s6
        refine hg1 xs[k] hm _ hm1 B4 (upd H0 L (.lst acc5)) B6 H6 _ _ _ (T6.wipe vs1) dp6 fun σ7 S7 ew7 => ⟨ew7.trans wipe_wipe, tyes_true ?_⟩
        rw [if_pos rfl]
        refine he xs[k] hm _ hm1 B4 (upd H0 L (.lst acc5)) B6 H6 σ7 _ S7 fun v B8 H8 s8 dv => ?_
        have st := s6.trans s8
        have hL5n : H5 L ≠ none := by rw [hL5]; exact fun z => nomatch z
        have hL8 : H8 L = some (.lst acc5) := st.hh.at hL5
        have bL8 : B8 L = none := st.fr L hL5n bL5
        have hA8 := DqAll.up st.bb _ _ hA5
        refine ⟨acc5, hL8, ?_, B8, acc5 ++ [v], (S5.step st).updFree bL8 h0L hfoot (.inr ⟨_, hL8, nt_lst⟩) nt_lst.1, ?_, bL8, upd_same, ?_, (sp5.trans st).updNew nL bL8 ⟨_, hL8, nt_lst⟩ nt_lst.1⟩
        · rw [hA8.len, List.length_append, List.length_map, List.length_take]
          have h1 := flat_take_len fl k
          have h2 := flat_take_len fl (k + 1)
          rw [flat_take_succ ed, List.length_append, List.length_map] at h2
          have : min j (ys xs[k]).length ≤ (ys xs[k]).length := Nat.min_le_right _ _
          omega
        · have := (T5.step st).setL (ws := acc5 ++ [v]) upd_same hL8 bL8
          rwa [show upd (upd H0 L (.lst acc5)) L (.lst (acc5 ++ [v])) = upd H0 L (.lst (acc5 ++ [v])) from by
            funext a
            by_cases h : a = L
            · subst h; rw [upd_same, upd_same]
            · rw [upd_ne h, upd_ne h, upd_ne h]] at this
        · rw [List.take_add_one, ey, List.map_append, ← List.append_assoc]
          exact hA8.app (.cons dv .nil)
      · have ej : j = (ys xs[k]).length := by omega
        subst ej
        refine .inl ⟨z2 (by rw [List.length_map]), B5, acc5, S5, bL5, hL5, ?_, sp5⟩
        rw [List.take_length] at hA5
        rw [flat_take_succ ed]
        exact hA5
    · have e : k = xs.length := by omega
      subst e
      rw [List.take_length] at hA
      exact .inl ⟨y2 (by rw [List.length_map]), q L acc B' H' (s1.trans sp) (s1.hh.free nL) bL hL hA⟩
/-! ### a group of lists under one name -/
abbrev grpR (K : PySem.W.Frag) (x : FD) (F : List Addr) : Hp → Hp → V → Prop := fun B H v => FRep K B H x v F ∧ F.Nodup
abbrev grp (K : PySem.W.Frag) (x : FD) (F : List Addr) : SV := .big (grpR K x F) F
theorem grp_stab : Stab K (grpR K x F) F := fun B H B' H' v h hd hh => ⟨h.1.step hd hh, h.2⟩
theorem wp_asgLL (h : ENN K te δ dss) (q : ∀ F, E.nx (δ.set i (grp K (.ll dss) F))) : WP K (tAsg te (gName i)) E δ := fun B0 H0 B H σ D L S =>
  h B0 H0 B H σ _ S fun a bs B1 H1 s1 nw nn ha lr => by
    refine L.nx _ H1 B1 _ ((S.step s1).set (x := grp K (.ll dss) (a :: bs)) ⟨.ref a, rfl, ⟨⟨a, bs, rfl, rfl, ha, lr⟩, nn⟩, grp_stab, fun b mb => ⟨?_, (nw b mb).2, S.hist.hh.free (nw b mb).1⟩⟩ fun b mb => new_apart S (nw b mb).1) (q _)
    rcases List.mem_cons.mp mb with rfl | mb
    · rw [ha]; exact fun z => nomatch z
    · obtain ⟨vs, e⟩ := lr.some b mb
      rw [e]; exact fun z => nomatch z
theorem Sd.grp (S : Sd K B0 H0 B H σ δ) (e : δ[i]? = some (grp K x F)) : ∃ v, σ[i]? = some (some v) ∧ FRep K B H x v F ∧ F.Nodup ∧ ∀ a ∈ F, H a ≠ none ∧ B a = none ∧ H0 a = none := by
  obtain ⟨o, eo, v, rfl, ⟨r, nd⟩, _, ha⟩ := S.ok i _ e
  exact ⟨v, eo, r, nd, ha⟩
theorem Sd.grpUpd {a : Addr} {u : HO} {x' : FD} (S : Sd K B0 H0 B H σ δ) (e : δ[i]? = some (DX.grp K x F)) (ha : a ∈ F) (hu : NT u) (hR : ∀ v, σ[i]? = some (some v) → FRep K B (upd H a u) x' v F) : Sd K B0 H0 B (upd H a u) σ (δ.set i (DX.grp K x' F)) := by
  obtain ⟨v, ev, r, nd, hF⟩ := S.grp e
  obtain ⟨o, eo, n1, n2⟩ := r.plain a ha
  refine S.bigTo e ⟨Sam.refl _, ⟨fun c oc ec => ?_, S.hist.bh.tb.upd (.inr ⟨o, eo, n1, n2⟩) hu⟩, fun c oc ec nc => ?_, fun c _ _ z => z⟩ (fun c mc => ⟨?_, (hF c mc).2.1, (hF c mc).2.2, .inl mc⟩) (fun w ew => ⟨hR w ew, nd⟩) grp_stab
  · have : c ≠ a := fun z => by subst z; rw [(hF c ha).2.1] at ec; cases ec
    rw [upd_ne this]; exact S.hist.bh.sm _ _ ec
  · have : c ≠ a := fun z => nc (z ▸ ha)
    rw [upd_ne this]; exact ⟨oc, ec, fun _ => rfl⟩
  · by_cases h : c = a
    · subst h; rw [upd_same]; exact fun z => nomatch z
    · rw [upd_ne h]; exact (hF c mc).1
/-- xs[k].append(e) -/
theorem wp_llApp {k : Int} {j : Nat} (e : δ[i]? = some (grp K (.ll dss) F)) (hb : ED K tb δ (.int k)) (hj : ixN dss.length k = some j) (hk : dss[j]? = some ds) (h : ED K te δ d) (hz : ds.length < sizeLine)
    (q : E.nx (δ.set i (grp K (.ll (dss.set j (ds ++ [d]))) F))) : WP K (tDrop (tBM K "list" rAppend (tOp (rIx K) (tVar i) tb) (tCons te tNil))) E δ := fun B0 H0 B H σ D L S => by
  obtain ⟨v, a1, ⟨a, bs, rfl, rfl, ha, lr⟩, nd, hF⟩ := S.grp e
  refine ⟨_, a1, hb B0 H0 B H σ _ S fun w B2 H2 s2 y => ?_⟩
  cases Dq.int_inv y
  have S2 := S.step s2
  obtain ⟨v2, a2, ⟨a', bs', z1, z2, ha2, lr2⟩, nd2, hF2⟩ := S2.grp e
  rw [a1] at a2; cases a2
  cases z1; cases z2
  obtain ⟨b, us, eb, hb1, db, put⟩ := lr2.get (List.nodup_cons.mp nd2).2 hk
  have e1 : atI (bs.map V.ref) k = some (.ref b) := by
    unfold atI
    rw [List.length_map, lr2.len, hj]
    show (bs.map V.ref)[j]? = _
    rw [List.getElem?_map, eb]; rfl
  refine .inl ⟨a, bs.map V.ref, k, .ref b, rfl, rfl, .inl (.inl ha2), e1, .inl ⟨rfl, us, .inl (.inl hb1)⟩, h B0 H0 B2 H2 σ _ S2 fun v B3 H3 s3 dv => ?_⟩
  have S3 := S2.step s3
  obtain ⟨v3, a3, ⟨a', bs', z1, z2, ha3, lr3⟩, nd3, hF3⟩ := S3.grp e
  rw [a1] at a3; cases a3
  cases z1; cases z2
  obtain ⟨b', us', eb', hb3, db3, put3⟩ := lr3.get (List.nodup_cons.mp nd3).2 hk
  rw [eb] at eb'; cases eb'
  have mb : b ∈ bs := List.mem_of_getElem? eb
  have nab : a ≠ b := fun z => (List.nodup_cons.mp nd).1 (z ▸ mb)
  refine ⟨b, us', v, rfl, rfl, hb3, by rw [db3.len]; exact hz, L.nx _ _ B3 _ (S3.grpUpd e (List.mem_cons_of_mem _ mb) (fun _ z => nomatch z) fun w ew => ?_) q⟩
  rw [a1] at ew; cases ew
  exact ⟨a, bs, rfl, rfl, by rw [upd_ne nab]; exact ha3, put3 _ _ (db3.app (.cons dv .nil))⟩
theorem Sd.frzGrp (S : Sd K B0 H0 B H σ δ) (e : δ[i]? = some (DX.grp K x F)) : Sam B (frzB F B H) ∧ Sd K B0 H0 (frzB F B H) H σ (δ.set i (.val (knD x))) := by
  obtain ⟨v, a1, r, nd, hF⟩ := S.grp e
  have bG : ∀ a ∈ F, B a = none := fun a ma => (hF a ma).2.1
  have k1 : Sam B (frzB F B H) := fun a o ea => by
    have na : a ∉ F := fun z => by rw [bG a z] at ea; cases ea
    exact ⟨o, (if_neg na).trans ea, fun _ => rfl⟩
  have k2 : Sam (frzB F B H) H := fun a o ea => by
    have ea : (if a ∈ F then H a else B a) = some o := ea
    by_cases z : a ∈ F
    · rw [if_pos z] at ea; exact ⟨o, ea, fun _ => rfl⟩
    · rw [if_neg z] at ea; exact S.hist.bh.sm _ _ ea
  refine ⟨k1, ⟨S.hist.bb.trans k1, ⟨k2, S.hist.bh.tb⟩, S.hist.hh, fun a q z => ?_⟩, by rw [List.length_set]; exact S.len, fun j t ej => ?_, S.apart.less e fun o eo a ma => by cases ma⟩
  · have na : a ∉ F := fun m => q (hF a m).2.2
    exact (if_neg na).trans (S.hist.fr a q z)
  · rcases get_set ej with ⟨rfl, rfl⟩ | ⟨hne, ej⟩
    · exact ⟨_, a1, v, rfl, r.kn k1 fun a ma => if_pos ma⟩
    · obtain ⟨o, eo, ok⟩ := S.ok j t ej
      have aw : ∀ a ∈ foot t o, a ∉ F := fun a ma mg => S.apart j i _ _ _ _ (Ne.symm hne) ej e eo a1 a ma mg
      refine ⟨o, eo, ?_⟩
      cases t with
      | no => exact True.intro
      | val d => obtain ⟨v, e1, q⟩ := ok; exact ⟨v, e1, Dq.up k1 _ _ q⟩
      | ob C' fs' =>
        obtain ⟨pp, dx', ws', rfl, hp', hn', hf'⟩ := ok
        exact ⟨pp, dx', ws', rfl, hp', hn', hf'.up k1⟩
      | own xo =>
        obtain ⟨pp, u, rfl, hp', bp, h0, q⟩ := ok
        exact ⟨pp, u, rfl, hp', (if_neg (aw pp (List.mem_singleton.mpr rfl))).trans bp, h0, q.up k1⟩
      | big R2 F2 =>
        obtain ⟨v, rfl, r, st2, ha⟩ := ok
        refine ⟨v, rfl, st2 B H _ H v r (fun w d => Dq.up k1 d w) (fun a ma o eo nt => eo), st2, fun a ma => ?_⟩
        obtain ⟨h1, h2, h3⟩ := ha a ma
        exact ⟨h1, (if_neg (aw a ma)).trans h2, h3⟩
theorem wp_freezeG (i : Nat) (e : δ[i]? = some (grp K x F)) (h : WP K t E (δ.set i (.val (knD x)))) : WP K t E δ := fun B0 H0 B H σ D L S => h B0 H0 _ H σ D L (S.frzGrp e).2
end
end DX

namespace DX
open PySem L2
variable [TabEnv]
section
variable {K : PySem.W.Frag} {δ : List SV} {ta tb te : TE} {d : D} {ds : List D} {i : Nat} {E : EndsD}
theorem ed_din {ms : List (Int × D)} {k : Int} (hk : ED K tb δ (.int k)) (h : ED K ta δ (.dict (kvD ms))) : ED K (tDIn tb ta) δ (.bool (kget k ms).isSome) := fun B0 H0 B H σ Q S q =>
  hk B0 H0 B H σ _ S fun w B1 H1 s1 b => h B0 H0 B1 H1 σ _ (S.step s1) fun v B2 H2 s2 dv => by
    cases Dq.int_inv b
    cases dv with
    | @dct a kvs _ hr dk =>
      obtain ⟨g1, g2⟩ := dqkv_get (k := k) dk
      refine ⟨a, valV kvs (Sum.inl k), rfl, .inl ⟨kvs, Sum.inl k, rd_up s2.bh hr, rfl, rfl⟩, ?_⟩
      · cases e : kget k ms with
        | none => rw [g2 e]; rw [e] at q; exact q _ B2 H2 (s1.trans s2) (.bl _)
        | some d =>
          obtain ⟨v, ev, _⟩ := g1 d e
          rw [ev]; rw [e] at q; exact q _ B2 H2 (s1.trans s2) (.bl _)
end
end DX

namespace DX
open PySem L2 PySem.Spec PyProof.Rows
variable [TabEnv]
/-! ### sets of a list or a tuple of ints; how many tuples a list has -/
def rSetA (K : PySem.W.Frag) (w : World) : List V → Hp → VK → Prop := fun xs H Q => ∃ (p : Addr) (ns : List Int), xs = [.ref p] ∧ (SqL K H p (ns.map V.int) ∨ SqT K H p (ns.map V.int)) ∧ ns.length ≤ 1000 ∧ ∀ a c, H a = none → c ≤ ns.length → Q (.ref a) (upd H a (SetO w a (fun j => decide (j ∈ ns)) c))
theorem kx_setA {X : Cx} {K : PySem.W.Frag} {w : World} (hK : X.K = K := by rfl) (hw : X.w = w := by rfl) (hc : X.calm = true := by rfl) : CallR X (.type "set") (rSetA K w) := by
  subst hK; subst hw
  intro pins s σ H xs us Q I r h
  obtain ⟨p, ns, rfl, hq, hl, q⟩ := h
  rcases hq with hq | hq
  · exact cr_setL hc rfl pins s σ H _ us Q I r ⟨p, ns, rfl, hq, hl, q⟩
  · cases r with
    | cons r rr =>
      cases rr
      cases r
      obtain ⟨its, rv, pt, hz⟩ := I.tuple hq
      have hi : IntsAre its.toArray.toList ns := ints_of_vals rv
      refine call_set_tupI ns (I.ok.hd hc) (show s.heap.IsTuple p its.toArray from pt) hi (by unfold scanBound; omega) fun h' tk c R1 hcn k => ?_
      exact ⟨.ref _, upd H s.heap.objs.size _, I.laid (t' := tk) k (Nat.le_refl _) (setO_new R1), rfl, q _ _ (I.hok.fresh (Nat.le_refl _)) hcn⟩
theorem kx_setOfT {X : Cx} {K : PySem.W.Frag} {P : Program} {w : World} (hu : X.A.units + 64 < cLine) (hK : X.K = K := by rfl) (hP : X.prog = P := by rfl) (hw : X.w = w := by rfl) (hc : X.calm = true := by rfl) : CallR X (.type "set") (rSetOfT K P w) := by
  subst hK; subst hP; subst hw; exact cr_setOfT hc hu
def rLenST (K : PySem.W.Frag) (P : Program) (w : World) : List V → Hp → VK → Prop := fun xs H Q => ∃ a L, xs = [.ref a] ∧ H a = some (SetTO P w a L) ∧ (∀ p ∈ L, SqT K H p.1 (p.2.map V.int)) ∧ ((L.map (·.2)).Nodup → Q (.int (L.length : Nat)) H)
theorem kx_lenST {X : Cx} {K : PySem.W.Frag} {P : Program} {w : World} (hK : X.K = K := by rfl) (hP : X.prog = P := by rfl) (hw : X.w = w := by rfl) : CallR X (.builtin "len") (rLenST K P w) := by
  subst hK; subst hP; subst hw
  intro pins s σ H xs us Q I r h
  obtain ⟨a, L, rfl, ha, hk, q⟩ := h
  rw [Vals.ref1 r]
  have R0 : SetT0 X.prog X.w s.heap a L := (I.hok a _ ha).1
  obtain ⟨es, ep, t, R⟩ := R0.full fun p hp => I.isT (hk p hp)
  obtain ⟨o, ho, hex, hd⟩ := R.ob
  have hlen := R.size
  have hfew := R.few
  exact call_len_set ho hex hd R.fits (by rw [hlen]; omega) ⟨.int L.length, H, I.tok _, ⟨_, by rw [hlen]⟩, q R.nd⟩
/-! ### each item once -/
def ddL {α : Type} [DecidableEq α] : List α → List α
  | [] => []
  | x :: l => if x ∈ l then ddL l else x :: ddL l
theorem ddL_mem {α : Type} [DecidableEq α] {x : α} : ∀ {l : List α}, x ∈ ddL l ↔ x ∈ l
  | [] => Iff.rfl
  | y :: l => by
    unfold ddL
    have ih := ddL_mem (x := x) (l := l)
    split
    · rename_i h
      rw [ih, List.mem_cons]
      exact ⟨.inr, fun z => z.elim (fun e => e ▸ h) id⟩
    · rw [List.mem_cons, List.mem_cons, ih]
theorem ddL_nodup {α : Type} [DecidableEq α] : ∀ {l : List α}, (ddL l).Nodup
  | [] => .nil
  | y :: l => by
    unfold ddL
    split
    · exact ddL_nodup
    · rename_i h
      exact List.nodup_cons.mpr ⟨fun z => h (ddL_mem.mp z), ddL_nodup⟩
theorem ddL_le {α : Type} [DecidableEq α] : ∀ {l : List α}, (ddL l).length ≤ l.length
  | [] => Nat.le_refl _
  | y :: l => by
    unfold ddL
    have := ddL_le (l := l)
    split
    · rw [List.length_cons]; omega
    · rw [List.length_cons, List.length_cons]; omega
theorem ddL_len {α : Type} [DecidableEq α] : ∀ {l : List α}, (ddL l).length = l.length ↔ l.Nodup
  | [] => ⟨fun _ => .nil, fun _ => rfl⟩
  | y :: l => by
    unfold ddL
    have ih := ddL_len (l := l)
    have le := ddL_le (l := l)
    split
    · rename_i h
      refine ⟨fun z => ?_, fun z => absurd h (List.nodup_cons.mp z).1⟩
      rw [List.length_cons] at z
      omega
    · rename_i h
      rw [List.length_cons, List.length_cons, List.nodup_cons]
      exact ⟨fun z => ⟨h, ih.mp (by omega)⟩, fun z => by rw [ih.mpr z.2]⟩
theorem nodup_le {α : Type} [DecidableEq α] : ∀ {a b : List α}, a.Nodup → (∀ x ∈ a, x ∈ b) → a.length ≤ b.length
  | [], _, _, _ => Nat.zero_le _
  | x :: a, b, nd, h => by
    obtain ⟨n1, n2⟩ := List.nodup_cons.mp nd
    have hx := h x (List.mem_cons_self ..)
    have := nodup_le (a := a) (b := b.erase x) n2 fun y hy => (List.mem_erase_of_ne (fun e : y = x => n1 (e ▸ hy))).mpr (h y (List.mem_cons_of_mem _ hy))
    rw [List.length_erase_of_mem hx] at this
    have : 0 < b.length := List.length_pos_of_mem hx
    rw [List.length_cons]
    omega
theorem ddL_uni {α : Type} [DecidableEq α] {a b : List α} (nd : a.Nodup) (h : ∀ x, x ∈ a ↔ x ∈ b) : a.length = (ddL b).length :=
  Nat.le_antisymm (nodup_le nd fun x hx => ddL_mem.mpr ((h x).mp hx)) (nodup_le ddL_nodup fun x hx => (h x).mpr (ddL_mem.mp hx))
def tupI (ys : List Int) : D := .tuple (ys.map PyData.int)
section
variable {K : PySem.W.Frag} {P : Program} {w : World} {B0 H0 B H B' H' : Hp} {σ : L2.St} {δ δ' : List SV} {ta tb te : TE} {tt : TT} {d x y : D} {ds es : List D} {E : EndsD} {i : Nat}
theorem tups_of : ∀ {yss : List (List Int)} {vs : List V}, DqAll K H vs (yss.map tupI) → ∃ ks : List (Addr × List Int), vs = ks.map (fun p => V.ref p.1) ∧ ks.map (·.2) = yss ∧ ∀ p ∈ ks, SqT K H p.1 (p.2.map V.int)
  | [], _, h => by cases h; exact ⟨[], rfl, rfl, fun p hp => by cases hp⟩
  | ys :: yss, _, h => by
    cases h with
    | cons h1 h2 =>
      obtain ⟨ks, e1, e2, e3⟩ := tups_of h2
      cases h1 with
      | @tup a vs _ hs hA =>
        cases hA.ints
        exact ⟨(a, ys) :: ks, by rw [e1]; rfl, by rw [List.map_cons, e2], fun p hp => (List.mem_cons.mp hp).elim (fun z => by rw [z]; exact hs) (e3 p)⟩
/-- len(set(xs)) of a list of tuples of ints -/
theorem ed_lenSetT {yss : List (List Int)} (h : ED K te δ (.list (yss.map tupI))) (hl : yss.length < 64) : ED K (tCB (rLenST K P w) (tCons (tCB (rSetOfT K P w) (tCons te tNil)) tNil)) δ (.int ((ddL yss).length : Nat)) := fun B0 H0 B H σ Q S q =>
  h B0 H0 B H σ _ S fun v B1 H1 s1 a => by
    cases a with
    | @lst p vs _ hs hA =>
      obtain ⟨ks, rfl, e2, e3⟩ := tups_of hA
      refine ⟨p, ks, rfl, s1.bh.seq hs, fun p mp => sqT_up s1.bh (e3 p mp), by rw [← e2, List.length_map] at hl; exact hl, fun z L hz h1 h2 => ?_⟩
      have s2 : Stp B1 H1 B1 (upd H1 z (SetTO P w z L)) := .newOwn s1.bh hz
      refine ⟨z, L, rfl, upd_same, fun p mp => sqT_up s2.hh (sqT_up s1.bh (e3 p (h1 p mp))), fun nd => ?_⟩
      have e : L.length = (ddL yss).length := by
        have := ddL_uni (b := yss) nd fun x => ⟨fun m => ?_, fun m => ?_⟩
        · rwa [List.length_map] at this
        · obtain ⟨p, mp, rfl⟩ := List.mem_map.mp m
          rw [← e2]
          exact List.mem_map.mpr ⟨p, h1 p mp, rfl⟩
        · rw [← e2] at m
          obtain ⟨p, mp, rfl⟩ := List.mem_map.mp m
          exact h2 p mp
      rw [e]
      exact q _ B1 _ (s1.trans s2) (.int _)
/-- sorted(set(xs)) of a list or a tuple of ints -/
theorem ep_sortedSetA {ns : List Int} (h : ED K te δ x) (hx : itemsD x = some (ns.map PyData.int)) (hl : ns.length ≤ 60) :
    EP K (tCB (rSortedSet w) (tCons (tCB (rSetA K w) (tCons te tNil)) tNil)) δ (fun d => ∃ ms : List Int, d = .list (ms.map PyData.int) ∧ ms.Pairwise (· < ·) ∧ (∀ k, k ∈ ms ↔ k ∈ ns) ∧ ms.length ≤ ns.length) := fun B0 H0 B H σ Q S q =>
  h B0 H0 B H σ _ S fun v B1 H1 s1 a => by
    have hq : ∃ p, v = .ref p ∧ (SqL K H1 p (ns.map V.int) ∨ SqT K H1 p (ns.map V.int)) := by
      cases a with
      | lst hs hA => cases hx; cases hA.ints; exact ⟨_, rfl, .inl (s1.bh.seq hs)⟩
      | tup hs hA => cases hx; cases hA.ints; exact ⟨_, rfl, .inr (sqT_up s1.bh hs)⟩
      | _ => cases hx
    obtain ⟨p, rfl, hq⟩ := hq
    refine ⟨_, ns, rfl, hq, by omega, fun z c hz hc => ⟨z, _, c, rfl, upd_same, by omega, fun ms p hp hm hlen np => ?_⟩⟩
    have s2 : Stp B1 H1 B1 (upd H1 z (SetO w z (fun j => decide (j ∈ ns)) c)) := .newOwn s1.bh hz
    refine q _ (upd B1 p (.lst (ms.map V.int))) _ _ ((s1.trans s2).trans (.new s2.bh np)) (.lst (.inl (.inl upd_same)) DqAll.ofInts) ⟨ms, rfl, hp, fun k => ?_, by omega⟩
    rw [hm k, decide_eq_true_eq]
/-! ### readings with effects -/
theorem ex_orV {a : Bool} {P : D → List SV → Prop} (h1 : ED K ta δ (.bool a)) (h2 : a = false → EX K tb δ P) (h3 : a = true → P (.bool true) δ) : EX K (tOrV ta tb) δ P := fun B0 H0 B H σ Q S q => h1 B0 H0 B H σ _ S fun v B1 H1 s1 c => by
  cases Dq.bool_inv c
  refine ⟨a, rfl, ?_⟩
  cases a with
  | true => exact iteT (q _ B1 H1 _ δ (S.step s1) (.bl true) (h3 rfl))
  | false => exact iteF (h2 rfl B0 H0 B1 H1 σ _ (S.step s1) q)
theorem ex_notV {P R : D → List SV → Prop} (h : EX K ta δ P) (u : ∀ d δ', P d δ' → ∃ b, d = .bool b ∧ R (.bool (!b)) δ') : EX K (tNotV ta) δ R := fun B0 H0 B H σ Q S q => h B0 H0 B H σ _ S fun v B1 H1 d δ1 S1 c pd => by
  obtain ⟨b, rfl, r⟩ := u d δ1 pd
  cases Dq.bool_inv c
  exact ⟨b, rfl, q _ B1 H1 _ δ1 S1 (.bl _) r⟩
theorem wp_retX {t : TE} {P : D → List SV → Prop} (h : EX K t δ P) (q : ∀ d δ', P d δ' → E.rt d) : WP K (tRet t) E δ := fun B0 H0 B H σ D L S => h B0 H0 B H σ _ S fun v B1 H1 d δ1 S1 a pd => L.rt v B1 H1 d S1.hist a (q d δ1 pd)
/-- a new list out of readings that may change an object -/
def EXN (K : PySem.W.Frag) (te : TE) (I : List SV → Prop) (ds : List D) : Prop := ∀ (B0 H0 B H : Hp) (σ : L2.St) (Q : VK) (δ : List SV), I δ → Sd K B0 H0 B H σ δ →
  (∀ p vs B' H' δ', I δ' → Sd K B0 H0 B' H' σ δ' → B' p = none → H0 p = none → (∀ (j : Nat) (t : SV) (q : Option V), δ'[j]? = some t → σ[j]? = some q → p ∉ foot t q) → H' p = some (.lst vs) → DqAll K B' vs ds → Q (.ref p) H') → te σ H Q
theorem Sd.outH {L : Addr} {u : HO} (S : Sd K B0 (upd H0 L u) B H σ δ) (n : H0 L = none) : Sd K B0 H0 B H σ δ := by
  refine ⟨⟨S.hist.bb, S.hist.bh, fun a o ea => ?_, fun a q z => ?_⟩, S.len, fun j s ej => ?_, S.apart⟩
  · have : a ≠ L := fun z => by subst z; rw [n] at ea; cases ea
    exact S.hist.hh a o (by rw [upd_ne this]; exact ea)
  · have : a ≠ L := fun e => q (e ▸ n)
    exact S.hist.fr a (by rw [upd_ne this]; exact q) z
  · obtain ⟨o, eo, ok⟩ := S.ok j s ej
    have key : ∀ a, upd H0 L u a = none → H0 a = none := fun a e => by
      by_cases z : a = L
      · rw [z]; exact n
      · rwa [upd_ne z] at e
    refine ⟨o, eo, ?_⟩
    cases s with
    | no => exact True.intro
    | val d => exact ok
    | ob C fs => exact ok
    | own xo =>
      obtain ⟨pp, us, e, h1, h2, h3, h4⟩ := ok
      exact ⟨pp, us, e, h1, h2, key _ h3, h4⟩
    | big R F =>
      obtain ⟨v, e, r, st, ha⟩ := ok
      exact ⟨v, e, r, st, fun a ma => ⟨(ha a ma).1, (ha a ma).2.1, key _ (ha a ma).2.2⟩⟩
theorem wipeD_get : ∀ (vs : List Nat) (j : Nat) (s : SV), (wipeD δ vs)[j]? = some s → (j ∈ vs ∧ s = .no ∧ j < δ.length) ∨ (j ∉ vs ∧ δ[j]? = some s)
  | [], j, s, h => .inr ⟨List.not_mem_nil, h⟩
  | v :: vs, j, s, h => by
    have h : ((wipeD δ vs).set v .no)[j]? = some s := h
    rcases get_set h with ⟨rfl, rfl⟩ | ⟨n, h⟩
    · refine .inl ⟨List.mem_cons_self .., rfl, ?_⟩
      have := (List.getElem?_eq_some_iff.mp h).1
      rw [List.length_set] at this
      have len : ∀ us : List Nat, (wipeD δ us).length = δ.length := fun us => by
        induction us with
        | nil => rfl
        | cons u us ih =>
          show ((wipeD δ us).set u .no).length = _
          rw [List.length_set, ih]
      rwa [len] at this
    · rcases wipeD_get vs j s h with ⟨a, b, c⟩ | ⟨a, b⟩
      · exact .inl ⟨List.mem_cons_of_mem _ a, b, c⟩
      · exact .inr ⟨fun z => (List.mem_cons.mp z).elim (fun e => n e.symm) a, b⟩
theorem wipeD_len : ∀ us : List Nat, (wipeD δ us).length = δ.length
  | [] => rfl
  | u :: us => by
    show ((wipeD δ us).set u .no).length = _
    rw [List.length_set, wipeD_len us]
/-- the same but for names that are forgotten -/
theorem Sd.swap {σ' : L2.St} {vs : List Nat} (S : Sd K B0 H0 B H σ' δ) (e : L2.wipe σ' vs = L2.wipe σ vs) : Sd K B0 H0 B H σ (wipeD δ vs) := by
  have hlen : σ.length = δ.length := by
    have := congrArg List.length e
    rw [wipe_length, wipe_length] at this
    rw [← this]; exact S.len
  have same : ∀ j, j ∉ vs → σ[j]? = σ'[j]? := fun j hj => by
    have := congrArg (fun (l : L2.St) => l[j]?) e
    rw [wipe_get, wipe_get, if_neg hj, if_neg hj] at this
    exact this.symm
  refine ⟨S.hist, by rw [wipeD_len]; exact hlen, fun j s ej => ?_, fun j k s t o q n e1 e2 e3 e4 a ma mb => ?_⟩
  · rcases wipeD_get vs j s ej with ⟨_, rfl, hj⟩ | ⟨hn, ej⟩
    · exact ⟨_, List.getElem?_eq_getElem (show j < σ.length by rw [hlen]; exact hj), True.intro⟩
    · obtain ⟨o, eo, ok⟩ := S.ok j s ej
      exact ⟨o, (same j hn).trans eo, ok⟩
  · rcases wipeD_get vs j s e1 with ⟨_, rfl, _⟩ | ⟨h1, e1⟩
    · cases ma
    · rcases wipeD_get vs k t e2 with ⟨_, rfl, _⟩ | ⟨h2, e2⟩
      · cases mb
      · exact S.apart j k s t o q n e1 e2 ((same j h1).symm.trans e3) ((same k h2).symm.trans e4) a ma mb
theorem exn_lc {α : Type} {I : List SV → Prop} {xs : List α} {gd : α → D} {wi : TI} {g : TG} {vs : List Nat} {f : α → D} {af : List SV → α → List SV} (hw : ∀ δ, I δ → EI K wi δ (xs.map gd)) (hl : xs.length < sizeLine)
    (hI : ∀ δ, I δ → wipeD δ vs = δ) (hg : ∀ δ x, I δ → x ∈ xs → GW K g vs δ (gd x) (af δ x)) (he : ∀ δ x, I δ → x ∈ xs → EX K te (af δ x) (fun d δ' => d = f x ∧ I (wipeD δ' vs))) : EXN K (tLc wi g tYes te vs) I (xs.map f) := fun B0 H0 B H σ Q δ iδ S q =>
  hw δ iδ B0 H0 B H σ _ S fun J B1 H1 s1 yd L nL => by
    have S1 := S.step s1
    have hfoot := new_foot (S := S1) nL
    have h0L := S1.hist.hh.free nL
    refine ⟨fun k m H' => m = xs.length - k ∧ k ≤ xs.length ∧ ∃ B' acc δ', I δ' ∧ Sd K B1 (upd H0 L (.lst acc)) B' H' σ δ' ∧ B' L = none ∧ H' L = some (.lst acc) ∧ DqAll K B' acc ((xs.take k).map f), ⟨_, rfl, Nat.zero_le _, B1, [], δ, iδ, ?_, s1.bh.free nL, upd_same, ?_⟩, ?_⟩
    · have := (S1.past S1.hist.bb (Sam.refl _)).step (.newOwn (o := .lst []) s1.bh nL)
      exact this.inL upd_same (s1.bh.free nL) hfoot
    · rw [List.take_zero]; exact .nil
    rintro k m H' ⟨rfl, hk, B', acc, δ', iδ', S', bL, hL, hA⟩
    obtain ⟨y1, y2⟩ := yd B' H' k S'.hist.bb S'.hist.bh
    by_cases hlt : k < xs.length
    · obtain ⟨go, yy⟩ := y1 (by rw [List.length_map]; exact hlt)
      refine .inr ⟨go, fun H'' => ∃ B'' acc δ'', I δ'' ∧ Sd K B1 (upd H0 L (.lst acc)) B'' H'' σ δ'' ∧ B'' L = none ∧ H'' L = some (.lst acc) ∧ DqAll K B'' acc ((xs.take (k + 1)).map f), fun H'' z => ⟨xs.length - (k + 1), by omega, rfl, hlt, z⟩, fun x H2 yl => ?_⟩
      obtain ⟨B2, d', s2, ed', dp⟩ := yy x H2 yl
      have ed : xs[k]? = some xs[k] := List.getElem?_eq_getElem hlt
      have eg : d' = gd xs[k] := by
        rw [List.getElem?_map, ed] at ed'
        exact (Option.some.inj ed').symm
      subst eg
      have hm : xs[k] ∈ xs := List.getElem_mem hlt
      have S2 := S'.step s2
      have hL2 : H2 L = some (.lst acc) := s2.hh.at hL
      have bL2 : B2 L = none := s2.fr L (by rw [hL]; exact fun z => nomatch z) bL
      have hA2 := DqAll.up s2.bb _ _ hA
      have S2p : Sd K B2 (upd H0 L (.lst acc)) B2 H2 σ δ' := S2.past S2.hist.bb (Sam.refl _)
      have S2w := S2p.wipe vs
      rw [hI δ' iδ'] at S2w
      refine hg δ' xs[k] iδ' hm B2 (upd H0 L (.lst acc)) B2 H2 _ _ _ S2w dp fun σ3 S3 ew => ⟨ew.trans wipe_wipe, tyes_true ?_⟩
      refine iteT (he δ' xs[k] iδ' hm B2 (upd H0 L (.lst acc)) B2 H2 σ3 _ S3 fun v B4 H4 d4 δ4 S4 dv ⟨e4, i4⟩ => ?_)
      subst e4
      have hL4 : H4 L = some (.lst acc) := S4.hist.hh.at upd_same
      have bL4 : B4 L = none := S4.hist.fr L (by rw [upd_same]; exact fun z => nomatch z) bL2
      have hA4 := DqAll.up S4.hist.bb _ _ hA2
      have S5 : Sd K B2 (upd H0 L (.lst acc)) B4 H4 σ (wipeD δ4 vs) := S4.swap (ew.trans wipe_wipe)
      have S6 : Sd K B1 (upd H0 L (.lst acc)) B4 H4 σ (wipeD δ4 vs) := S5.back S2.hist
      have S7 := S6.setL (ws := acc ++ [v]) upd_same hL4 bL4
      rw [show upd (upd H0 L (.lst acc)) L (.lst (acc ++ [v])) = upd H0 L (.lst (acc ++ [v])) from by
        funext a
        by_cases h : a = L
        · subst h; rw [upd_same, upd_same]
        · rw [upd_ne h, upd_ne h, upd_ne h]] at S7
      refine ⟨acc, hL4, ?_, B4, acc ++ [v], wipeD δ4 vs, i4, S7, bL4, upd_same, ?_⟩
      · rw [hA4.len, List.length_map, List.length_take]; omega
      · rw [List.take_add_one, ed, List.map_append]
        exact hA4.app (.cons dv .nil)
    · have e : k = xs.length := by omega
      subst e
      rw [List.take_length] at hA
      have hf2 := S'.outL (by rw [upd_same]; exact fun z => nomatch z) hL
      exact .inl ⟨y2 (by rw [List.length_map]), q L acc B' H' δ' iδ' ((S'.outH h0L).back S1.hist) bL h0L hf2 hL hA⟩
theorem Sd.knowL {p : Addr} {vs : List V} (S : Sd K B0 H0 B H σ δ) (bp : B p = none) (h0 : H0 p = none) (hf : ∀ (j : Nat) (t : SV) (q : Option V), δ[j]? = some t → σ[j]? = some q → p ∉ foot t q) (hp : H p = some (.lst vs)) : Sd K B0 H0 (upd B p (.lst vs)) H σ δ ∧ Sam B (upd B p (.lst vs)) := by
  obtain ⟨k1, k2⟩ := Stp.know (o := .lst vs) S.hist.bh bp hp
  refine ⟨⟨⟨S.hist.bb.trans k1, k2, S.hist.hh, fun a q z => ?_⟩, S.len, fun j s ej => ?_, S.apart⟩, k1⟩
  · have : a ≠ p := fun e => by subst e; exact q h0
    rw [upd_ne this]; exact S.hist.fr a q z
  · obtain ⟨o, eo, ok⟩ := S.ok j s ej
    have aw := hf j s o ej eo
    refine ⟨o, eo, ?_⟩
    cases s with
    | no => exact True.intro
    | val d => obtain ⟨v, e1, e2⟩ := ok; exact ⟨v, e1, Dq.up k1 _ _ e2⟩
    | ob C fs => obtain ⟨pp, dx, ws, e1, e2, e3, e4⟩ := ok; exact ⟨pp, dx, ws, e1, e2, e3, e4.up k1⟩
    | own es =>
      obtain ⟨pp, ws, e1, e2, e3, e4, e5⟩ := ok
      have hne2 : pp ≠ p := fun z => by
        subst z; subst e1
        exact aw (List.mem_singleton.mpr rfl)
      exact ⟨pp, ws, e1, e2, by rw [upd_ne hne2]; exact e3, e4, e5.up k1⟩
    | big R F => exact big_step ok aw k1 (fun a z => upd_ne z) (fun _ _ => rfl)
theorem EXN.ex {I : List SV → Prop} (h : EXN K te I ds) (i0 : I δ) : EX K te δ (fun d δ' => d = .list ds ∧ I δ') := fun B0 H0 B H σ Q S q => h B0 H0 B H σ Q δ i0 S fun p vs B' H' δ' i' S' bp h0 hf hp hA => by
  obtain ⟨S2, k1⟩ := S'.knowL bp h0 hf hp
  exact q (.ref p) _ H' _ δ' S2 (.lst (.inl (.inl upd_same)) (DqAll.up k1 _ _ hA)) ⟨rfl, i'⟩
end
end DX

namespace DX
open PySem L2
variable [TabEnv]
theorem atI_last {α : Type} {xs : List α} {x : α} : atI (xs ++ [x]) (-1) = some x := by
  unfold atI ixN
  rw [if_neg (by decide), List.length_append, if_pos (by show -(((xs.length + 1 : Nat)) : Int) ≤ -1; omega)]
  show (xs ++ [x])[(-1 + ((xs.length + 1 : Nat) : Int)).toNat]? = some x
  rw [show (-1 + ((xs.length + 1 : Nat) : Int)).toNat = xs.length by omega, List.getElem?_append_right (Nat.le_refl _), Nat.sub_self]
  rfl
theorem eqvAll_ints : ∀ (a b : List Int), PyData.eqvAll (a.map PyData.int) (b.map PyData.int) = decide (a = b)
  | [], [] => by simp only [List.map_nil, PyData.eqvAll]; rfl
  | [], y :: b => by simp only [List.map_nil, List.map_cons, PyData.eqvAll]; rfl
  | x :: a, [] => by simp only [List.map_nil, List.map_cons, PyData.eqvAll]; rfl
  | x :: a, y :: b => by
    have ih := eqvAll_ints a b
    simp only [List.map_cons, PyData.eqvAll]
    rw [ih, Bool.eq_iff_iff, Bool.and_eq_true, decide_eq_true_iff, decide_eq_true_iff, List.cons.injEq]
    simp only [PyData.eqv]
    rw [beq_iff_eq]
theorem eqv_listI (a b : List Int) : PyData.eqv (.list (a.map PyData.int)) (.list (b.map PyData.int)) = decide (a = b) := by
  simp only [PyData.eqv]
  exact eqvAll_ints a b
theorem eqv_tupI (a b : List Int) : PyData.eqv (tupI a) (tupI b) = decide (a = b) := by
  unfold tupI
  simp only [PyData.eqv]
  exact eqvAll_ints a b
theorem any_tupI (l : List (List Int)) (a : List Int) : ((l.map tupI).any fun z => PyData.eqv z (tupI a)) = decide (a ∈ l) := by
  induction l with
  | nil => rfl
  | cons x l ih =>
    rw [List.map_cons, List.any_cons, ih, eqv_tupI, Bool.eq_iff_iff, Bool.or_eq_true, decide_eq_true_iff, decide_eq_true_iff, decide_eq_true_iff, List.mem_cons]
    exact ⟨fun h => h.elim (fun z => .inl z.symm) .inr, fun h => h.elim (fun z => .inl z.symm) .inr⟩
theorem shp_tupI {n : Nat} {a : List Int} : Shp (n + 1) (tupI a) := shp_tints
theorem shp_tupIs {n : Nat} {l : List (List Int)} : Shp (n + 1 + 1) (.list (l.map tupI)) := shp_list (shp_map fun _ => shp_tupI)
/-! ### ascending, each once -/
def asd (ys : List Int) : List Int := asc (ddL ys)
theorem asd_pw {ys : List Int} : (asd ys).Pairwise (· < ·) := by
  have h1 := asc_pw (ddL ys)
  have h2 : (asc (ddL ys)).Nodup := (asc_perm _).nodup_iff.mpr ddL_nodup
  exact (List.Pairwise.and h1 h2).imp fun h => by omega
theorem asd_mem {ys : List Int} {k : Int} : k ∈ asd ys ↔ k ∈ ys := by
  unfold asd
  rw [(asc_perm _).mem_iff, ddL_mem]
theorem pw_uni {a b : List Int} (ha : a.Pairwise (· < ·)) (hb : b.Pairwise (· < ·)) (hm : ∀ k, k ∈ a ↔ k ∈ b) : a = b := by
  have nd : ∀ {l : List Int}, l.Pairwise (· < ·) → l.Nodup := fun h => h.imp fun h e => by omega
  exact asc_uni ((List.perm_ext_iff_of_nodup (nd ha) (nd hb)).mpr hm) (ha.imp fun h => by omega) (hb.imp fun h => by omega)
theorem asd_eq {ys : List Int} : ys = asd ys ↔ ys.Pairwise (· < ·) :=
  ⟨fun h => by rw [h]; exact asd_pw, fun h => pw_uni h asd_pw fun k => asd_mem.symm⟩
theorem asd_len {ys : List Int} : (asd ys).length ≤ ys.length := by
  unfold asd
  rw [(asc_perm _).length_eq]
  exact ddL_le
section
variable {K : PySem.W.Frag} {w : World} {δ : List SV} {te : TE} {x d : D}
theorem EPed {P : D → Prop} (h : EP K te δ P) (u : ∀ d', P d' → d' = d) : ED K te δ d := fun B0 H0 B H σ Q S q => h B0 H0 B H σ Q S fun v B' H' d' s a pd => q v B' H' s (u d' pd ▸ a)
theorem ed_sortedSetA {ns : List Int} (h : ED K te δ x) (hx : itemsD x = some (ns.map PyData.int)) (hl : ns.length ≤ 60) :
    ED K (tCB (rSortedSet w) (tCons (tCB (rSetA K w) (tCons te tNil)) tNil)) δ (.list ((asd ns).map PyData.int)) :=
  EPed (ep_sortedSetA h hx hl) fun d' ⟨ms, e, pw, mm, _⟩ => by rw [e, pw_uni pw asd_pw fun k => (mm k).trans asd_mem.symm]
theorem ed_tupRg {n : Int} (h : ED K te δ (.int n)) (h0 : 0 ≤ n) (hn : n ≤ 16777216) : ED K (tTupRg (tRg1 te)) δ (.tuple ((List.range n.toNat).map fun i => PyData.int (i : Nat))) := fun B0 H0 B H σ Q S q =>
  h B0 H0 B H σ _ S fun v B1 H1 s1 a => by
    cases Dq.int_inv a
    refine ⟨n, rfl, RgOk.of_le (by omega) hn (by omega) h0, fun p np => q (.ref p) (upd B1 p (.tup (rgV 0 n))) _ (s1.trans (.new s1.bh np)) (.tup (.inl (.inl upd_same)) ?_)⟩
    unfold rgV
    rw [Int.sub_zero]
    have : ∀ l : List Nat, DqAll K (upd B1 p (.tup ((List.range n.toNat).map fun i => V.int (0 + (i : Nat))))) (l.map fun i => V.int (0 + (i : Nat))) (l.map fun i => PyData.int (i : Nat)) := fun l => by
      induction l with
      | nil => exact .nil
      | cons i l ih => exact .cons (by show Dq K _ (V.int (0 + (i : Nat))) (.int (i : Nat)); rw [Int.zero_add]; exact .int _) ih
    exact this _
end
end DX

namespace L2
open PySem PySem.Spec PyProof.Rows HT
/-! ### t[::-1] of a tuple -/
section
variable {prog : Program} {w : World} {A : Around} {E : Value → Shared → Prop} {s : Shared}
theorem rev_places (n : Nat) : Builtin.Slice.slicePlaces ((n : Int) - 1) (-1) (-1) = n := by
  unfold Builtin.Slice.slicePlaces
  have h1 : ¬ ((-1 : Int) > 0) := by decide
  by_cases h : (n : Int) - 1 > -1
  · simp only [h1, if_false, h, if_true]
    rw [show (- -1 : Int) = 1 by decide, Int.ediv_one]
    omega
  · simp only [h1, if_false, h]
    omega
theorem fm_congr {α β : Type} {f g : α → Option β} : ∀ {l : List α}, (∀ k ∈ l, f k = g k) → l.filterMap f = l.filterMap g
  | [], _ => rfl
  | a :: l, h => by
    rw [List.filterMap_cons, List.filterMap_cons, h a (List.mem_cons_self ..), fm_congr fun k m => h k (List.mem_cons_of_mem _ m)]
theorem rev_pick (xs : Array Value) : ((List.range xs.size).filterMap fun (k : Nat) => xs[(((xs.size : Int) - 1) + (k : Int) * (-1)).toNat]?).toArray = xs.toList.reverse.toArray := by
  have e : ((List.range xs.size).filterMap fun (k : Nat) => xs[(((xs.size : Int) - 1) + (k : Int) * (-1)).toNat]?) = ((List.range xs.size).map fun k => xs.size - 1 - k).filterMap (xs[·]?) := by
    rw [List.filterMap_map]
    refine fm_congr fun k hk => ?_
    have := List.mem_range.mp hk
    show xs[(((xs.size : Int) - 1) + (k : Int) * (-1)).toNat]? = xs[xs.size - 1 - k]?
    have e2 : (((xs.size : Int) - 1) + (k : Int) * (-1)).toNat = xs.size - 1 - k := by omega
    rw [e2]
  rw [e, PySem.W.krv_range, List.filterMap_reverse, PySem.W.krv_all]
theorem sliceApplied_rev {sl : Addr} {vl vu vs : Value} {n : Nat} {Q : Int × Int × Nat → Shared → Prop} (hs : s.heap.IsSliceOf sl vl vu vs) (pl : IsPart vl none) (pu : IsPart vu none) (ps : IsPart vs (some (-1)))
    (h : Q ((n : Int) - 1, -1, n) s) : wpAny (model prog w) A (Builtin.Slice.sliceApplied (.ref sl) (pure (n : Int))) Q E s := by
  obtain ⟨os, hos, hcs, hds⟩ := id hs
  unfold Builtin.Slice.sliceApplied Builtin.Slice.sliceFields
  refine wpAny_bind (wpAny_bind (wpAny_field hos hds (x := vl) rfl (wpAny_bind (wpAny_field hos hds (x := vu) rfl (wpAny_bind (wpAny_field hos hds (x := vs) rfl (wpAny_pure ?_)))))))
  refine wpAny_bind (slicePart_ ps ?_)
  show wpAny _ _ (if ((-1 : Int) == 0) = true then _ else _) _ _ s
  rw [if_neg (by decide)]
  refine wpAny_bind (slicePart_ pl (wpAny_bind (slicePart_ pu (wpAny_bind (wpAny_pure ?_)))))
  show wpAny _ _ (pure ((n : Int) - 1, (-1 : Int), Builtin.Slice.slicePlaces ((n : Int) - 1) (-1) (-1))) _ _ s
  rw [rev_places]
  exact wpAny_pure h
theorem getItem_tuple_rev {t sl : Addr} {items : Array Value} {vl vu vs : Value} {Q : Value → Shared → Prop} (ht : IsTup s.heap t items) (hs : s.heap.IsSliceOf sl vl vu vs) (pl : IsPart vl none) (pu : IsPart vu none) (ps : IsPart vs (some (-1)))
    (h : Q (.ref s.heap.objs.size) { s with heap := s.heap.push { cls := .type "tuple", data := .seq items.toList.reverse.toArray } })
    (hsz : items.size ≤ sizeLine) : wpAny (model prog w) A (getItem (.ref t) (.ref sl)) Q E s := by
  have htake : sizeOk (.seq items.toList.reverse.toArray) := by
    show items.toList.reverse.toArray.size ≤ sizeLine
    rw [List.size_toArray, List.length_reverse, Array.length_toList]
    exact hsz
  obtain ⟨os, hos, hcs, hds⟩ := id hs
  have hTs : s.TypeIs (.ref sl) "slice" := ⟨os, hos, hcs⟩
  unfold getItem
  try with_reducible refine wpAny_holding ?_
  first | refine wpAny_bind (wpAny_pure ?_) | skip
  refine wpAny_bind (wpAny_sequenceKey ht.typeIs (by decide) ?_)
  refine wpAny_bind (wpAny_callSpecial?_slot (name := Str.ofString "__getitem__") ht.typeIs PyProof.Rows.slot_tuple_getitem
    (wpAny_call_entry PyProof.Rows.slot_tuple_getitem ht.typeIs entry_tuple_getitem ?_ (args_tuple_getitem _ _)))
  show wpAny _ _ (Builtin.Tuple.tupleItemsOf (.ref t) >>= _) _ _ s
  refine wpAny_bind (tupleItemsOf_ ht ?_)
  refine wpAny_bind (wpAny_typeOf hTs ?_)
  rw [if_pos (by decide)]
  refine wpAny_bind (sliceApplied_rev hs pl pu ps ?_)
  have hno : ¬ ((((items.size : Int) - 1) == 0 && (-1 : Int) == 1 && items.size == items.size) = true) := by
    intro q
    rw [Bool.and_eq_true, Bool.and_eq_true] at q
    exact absurd q.1.2 (by decide)
  show wpAny _ _ (if (((items.size : Int) - 1) == 0 && (-1 : Int) == 1 && items.size == items.size) = true then _ else _) _ _ s
  rw [if_neg hno, rev_pick]
  first
    | exact wpAny_bind (m := Builtin.Tuple.tupleExact _) (wpAny_newObj_type (wpAny_pure ⟨_, rfl, wpAny_pure h⟩) htake)
    | exact wpAny_bind (m := Builtin.Tuple.tupleExact _) (wpAny_newObj_type (wpAny_bind (wpAny_pure (wpAny_pure ⟨_, rfl, wpAny_pure h⟩))) htake)
    | exact wpAny_bind (wpAny_bind (m := Builtin.Tuple.tupleExact _) (wpAny_newObj_type (wpAny_pure (wpAny_pure ⟨_, rfl, wpAny_pure h⟩)) htake))
    | exact wpAny_bind (wpAny_bind (m := Builtin.Tuple.tupleExact _) (wpAny_newObj_type (wpAny_pure ⟨_, rfl, wpAny_pure h⟩) htake))
end
section
variable {X : Cx}
def tRevT (K : PySem.W.Frag) (te : TE) : TE := fun σ H Q => te σ H fun x H1 => ∃ a xs, x = .ref a ∧ SqT K H1 a xs ∧ ∀ p, H1 p = none → Q (.ref p) (upd H1 p (.tup xs.reverse))
theorem pe_revT {e : Expr} {te : TE} {k : Nat} {p1 p2 p3 pos : Pos} (he : PE X e te) : PE X (.Subscript e (.Slice none none (some (.UnaryOp .USub (.Constant (.int 1) k p1) p2)) p3) pos) (tRevT X.K te) := by
  refine ⟨fun pins s σ H Q I h => ?_⟩
  refine Subscript_ (thn (he.run pins s σ H _ I h) fun v s1 ⟨x, H1, I1, r1, q1⟩ => ?_)
  obtain ⟨a, xs, ex, hx, q⟩ := q1
  subst ex
  cases r1
  have hst : PO X (some (.UnaryOp .USub (.Constant (.int 1) k p1) p2)) (tPart (tUn (rU fun i => .int (-i)) (tC (.int 1)))) := po_some (pe_un un_neg pe_int)
  refine wpAny_Slice (thn (po_none.run pins s1 σ H1 (fun o H2 => o = none ∧ H2 = H1) I1 ⟨rfl, rfl⟩) fun vl s2 ⟨l, H2, I2, pl, el, e2⟩ => ?_)
  subst el e2
  refine thn (po_none.run pins s2 σ H2 (fun o H3 => o = none ∧ H3 = H2) I2 ⟨rfl, rfl⟩) fun vu s3 ⟨u, H3, I3, pu, eu, e3⟩ => ?_
  subst eu e3
  refine thn (hst.run pins s3 σ H3 (fun o H4 => o = some (-1) ∧ H4 = H3) I3 ⟨1, rfl, -1, rfl, rfl, rfl⟩) fun vs s4 ⟨o, H4, I4, ps, eo, e4⟩ => ?_
  subst eo e4
  have I5 : Inv X pins σ H4 { s4 with heap := s4.heap.push { cls := .type "slice", data := .fields #[vl, vu, vs] } } := I4.kept (t' := s4.toks) fun b ob q => Heap.get?_push_of_some _ q
  obtain ⟨its, r, ht, hz⟩ := I5.tuple hx
  have hlen := r.length
  show wpAny (model X.prog X.w) X.A (subscriptTail e (.Slice none none (some (.UnaryOp .USub (.Constant (.int 1) k p1) p2)) p3) (.ref a) (.ref s4.heap.objs.size)) (EP X pins σ Q) X.xe { s4 with heap := s4.heap.push { cls := .type "slice", data := .fields #[vl, vu, vs] } }
  refine tail_any (ops := [.ref a, .ref s4.heap.objs.size]) ht.typeIs (PyProof.Rows.slot_tuple_getitem.lookup) ?_ (by with_unfolding_all rfl)
  refine getItem_tuple_rev ht (Heap.IsSliceOf.new _ vl vu vs) pl pu ps ?_ (by rw [List.size_toArray]; omega)
  refine ⟨.ref _, _, I5.laid (t' := s4.toks) (o := .tup xs.reverse) (fun b ob q => Heap.get?_push_of_some _ q) (Nat.le_refl _) ?_, rfl, q _ (I5.hok.fresh (Nat.le_refl _))⟩
  exact ⟨by rw [List.length_reverse]; exact hz, _, r.reverse, IsTup.new _ _⟩
/-! ### list + list, whatever they are -/
def rCatF (K : PySem.W.Frag) : R2 := fun x y H Q => ∃ a b xs ys, x = .ref a ∧ y = .ref b ∧ SqL K H a xs ∧ SqL K H b ys ∧ xs.length + ys.length ≤ sizeLine ∧ ∀ p, H p = none → Q (.ref p) (upd H p (.lst (xs ++ ys)))
theorem op_catF : OpR X (binaryOp .Add) (rCatF X.K) := by
  intro pins s σ H x y v u Q I rx ry h
  obtain ⟨a, b, xs, ys, rfl, rfl, ha, hb, hz, q⟩ := h
  cases rx
  cases ry
  obtain ⟨its, r, ⟨⟨c, dd, da, sl⟩, n, e, hc, hd, hs⟩, _⟩ := I.list ha
  obtain ⟨its2, r2, ⟨⟨c2, dd2, da2, sl2⟩, n2, e2, hc2, hd2, hs2⟩, _⟩ := I.list hb
  simp only at hc hd hs hc2 hd2 hs2
  subst hc hd hs hc2 hd2 hs2
  have l1 := r.length
  have l2 := r2.length
  have ea : its.toArray ++ its2.toArray = (its ++ its2).toArray := by simp
  refine concat_meets ⟨_, e, rfl⟩ ⟨_, e2, rfl⟩ noFill_list_add seq_list_add PySem.F.slot_list_add PySem.F.entry_list_add (PySem.F.args_list_add_2 _ _)
    (list_addW a b its.toArray its2.toArray n n2 none none sl sl2 (by rw [List.size_toArray, List.size_toArray]; omega)) ⟨e, e2, ?_⟩
  rw [ea]
  exact ⟨.ref _, _, I.lnew (t' := s.toks) (r.append r2) (by rw [List.length_append]; omega), rfl, q _ I.fresh⟩
end
end L2
namespace DX
open PySem L2
section
variable {X : Cx} {K : PySem.W.Frag} {e : Expr} {te : TE} {pos : Pos}
theorem kpe_revT {k : Nat} {p1 p2 p3 : Pos} (he : PE X e te) (hK : X.K = K := by rfl) : PE X (.Subscript e (.Slice none none (some (.UnaryOp .USub (.Constant (.int 1) k p1) p2)) p3) pos) (tRevT K te) := by subst hK; exact pe_revT he
theorem kx_catF (hK : X.K = K := by rfl) : OpR X (binaryOp .Add) (rCatF K) := by subst hK; exact op_catF
end
variable [TabEnv]
section
variable {K : PySem.W.Frag} {δ : List SV} {te ta tb : TE} {ds es : List D}
theorem ed_revT (h : ED K te δ (.tuple ds)) : ED K (tRevT K te) δ (.tuple ds.reverse) := fun B0 H0 B H σ Q S q => h B0 H0 B H σ _ S fun v B1 H1 s1 a => by
  cases a with
  | tup hs hA => exact ⟨_, _, rfl, sqT_up s1.bh hs, fun p hp => q _ (upd B1 p (.tup _)) _ (s1.trans (.new s1.bh hp)) (.tup (.inl (.inl upd_same)) (DqAll.up (same_new (s1.bh.free hp)) _ _ (dqall_rev hA)))⟩
theorem en_catF (ha : ED K ta δ (.list ds)) (hb : ED K tb δ (.list es)) (hl : ds.length + es.length ≤ sizeLine) : EN K (tOp (rCatF K) ta tb) δ (ds ++ es) := fun B0 H0 B H σ Q S q =>
  ha B0 H0 B H σ _ S fun v B1 H1 s1 a => hb B0 H0 B1 H1 σ _ (S.step s1) fun w B2 H2 s2 b => by
    cases a with
    | lst hs hA =>
      cases b with
      | lst ks kA =>
        have st := s1.trans s2
        exact ⟨_, _, _, _, rfl, rfl, (s2.bb.trans s2.bh).seq hs, s2.bh.seq ks, by rw [hA.len, kA.len]; exact hl, fun p hp => q p _ B2 _ (st.trans (.newOwn s2.bh hp)) (st.hh.free hp) (s2.bh.free hp) upd_same ((DqAll.up s2.bb _ _ hA).app kA)⟩
end
end DX

namespace LamK
open PySem L2 LamX PySem.Spec PyProof.Rows PySem.W
section
variable {X : Cx} {pins : List (Addr × Obj)} {σ : L2.St} {s : Shared} {H : Hp}
/-- the lambda is called from any depth -/
theorem lam_callA {AA : Around} {sco : Scope} {f c' : Addr} {md ctw : Value} {prs : Arguments} {what : Expr} {k pi : Nat} {a : Str} {x : V} {u : Value} {tb : TE} {Q : VK} {E : Value → Shared → Prop} (I : Inv X pins σ H s) (M1 : LamOne a X.env.scope sco) (nd : X.N.Nodup) (hip : X.N[pi]? = some a) (rel : RelV x u)
    (hf : s.heap.get? f = some (PySem.W.kla_obj "<lambda>" (X.env.qual ++ "<lambda>") prs what sco (cloFrom X.env.cells sco.names []) md c' ctw)) (hco : H c' = some (CodeO c' (X.env.qual ++ "<lambda>")))
    (hbind : bindArgs (PySem.W.kla_fn "<lambda>" (X.env.qual ++ "<lambda>") prs what sco (cloFrom X.env.cells sco.names []) md (.ref c') ctw) ⟨[u], []⟩ = pure [(a, u)])
    (hr1 : Room (k + 1) AA) (ent : Env0 X.prog X.w X.K X.mg X.base AA X.stack s H) (hbody : ∀ (A : Around) (out : List Env) (s : Shared) (H : Hp), Room k (A.deeper (lamEnv X sco s.heap.objs.size f c')) → PE (lamCtx X A out s H sco f c') what tb)
    (ht : tb (σ.set pi (some x)) H Q) : wpAny (model X.prog X.w) AA (call (.ref f) [u]) (fun r s' => ∃ v H', Inv X pins σ H' s' ∧ RelV v r ∧ Q v H' ∧ Un (frs X.stack) [] H H' s.heap s'.heap) E s := by
  obtain ⟨⟨oc, vs, t, hoc, hdc, hvc⟩, _, _⟩ := I.hok c' _ hco
  have rc : codeAny (model X.prog X.w) AA (.call (.ref f) ⟨[u], []⟩) (CR (fun _ _ _ _ _ _ => False) X.stack X.prog X.w H s Q (fun _ _ _ => False)) s := by
    refine PySem.W.kla_callFunE hr1.depth hf rfl M1.co M1.gen rfl ⟨c', oc, vs, t, rfl, hoc, hdc, hvc⟩ ?_
    rw [hbind]
    refine wpAny_pure (wpAny_newFunctionEnv (fun nm hy => (M1.own nm hy).1) (fun nm hy => by rw [List.mem_singleton.mp hy]; exact M1.par) (fun h₁ spaceOk hsb => ⟨I.nolimit.fresh _ hsb, ?_⟩) M1.kind)
    show codeAny _ _ (.expr what (lamEnv X sco s.heap.objs.size f c')) _ _
    have stays : ∀ b o, s.heap.get? b = some o → h₁.get? b = some o := fun b o e => hsb.extBut b o (Nat.ne_of_lt (Heap.lt_size e)) (Heap.get?_push_of_some _ e)
    have J : Inv (lamCtx X AA X.stack s H sco f c') [] (σ.set pi (some x)) H { s with heap := h₁, toks := s.toks + ([(a, u)] : List (Str × Value)).length } :=
      lam_enter I M1 nd hip rel ent hr1.hd spaceOk stays
    refine PySem.W.kla_codeExpr (wpAny_mono ((hbody _ _ s H (hr1.deeper _)).run [] _ _ H Q J ht) (fun v s' hq => ?_) fun e s' hq => hq)
    obtain ⟨wv, Hn, Jn, rv, qq⟩ := hq
    exact ⟨wv, Hn, Jn.os, Jn.bare, Jn.base, Jn.hok, rv, qq⟩
  refine wpAny_call (codeAny_mono rc fun rel s2 hq => ?_)
  cases rel with
  | error e => exact (show False from hq).elim
  | ok fl =>
    cases fl with
    | ret u =>
      obtain ⟨v, H', os, bare, un, hok, r, q⟩ := hq
      obtain ⟨v2, H2, I2, r2, rfl, rfl⟩ := I.after (Q := fun v2 H2 => v2 = v ∧ H2 = H') ⟨v, H', os, bare, un, hok, r, rfl, rfl⟩
      exact ⟨_, _, I2, r2, q, un⟩
    | next => exact False.elim hq
    | brk => exact False.elim hq
    | cont => exact False.elim hq
/-- what a key does, called for each of xs in turn: W stays, the answers are the data kd -/
structure KeyS (K : PySem.W.Frag) (tk : TE) (pi : Nat) (σ : L2.St) (xs : List V) (kd : Nat → PyData) (W : Hp → Prop) : Prop where
  key : ∀ (i : Nat) (x : V) (H' : Hp), xs[i]? = some x → W H' → tk (σ.set pi (some x)) H' fun r H'' => Dq K H'' r (kd i) ∧ W H'' ∧ Sam H' H''
def sortO (n : Nat) (kd : Nat → PyData) : List Nat := (List.range n).mergeSort (dataLe false kd)
theorem each_vals {xs : List V} : ∀ {out : List Value} {is : List Nat}, EachIs (fun v i => ∃ x, xs[i]? = some x ∧ RelV x v) out is → Vals (is.map fun i => xs.getD i .non) out
  | _, _, .nil => .nil
  | _, _, .cons h t => by
    obtain ⟨x, e, r⟩ := h
    refine .cons ?_ (each_vals t)
    show RelV (xs.getD _ .non) _
    rw [List.getD_eq_getElem?_getD, e]
    exact r
theorem vals_each {xs : List V} : ∀ {ys : List V} {vs : List Value} (m : Nat), Vals ys vs → (∀ i, ys[i]? = xs[m + i]?) → EachIs (fun v i => ∃ x, xs[i]? = some x ∧ RelV x v) vs ((List.range ys.length).map fun i => m + i)
  | _, _, m, .nil, _ => .nil
  | _, _, m, .cons r t, e => by
    rw [List.length_cons, List.range_succ_eq_map, List.map_cons, List.map_map]
    refine .cons ⟨_, (e 0).symm, r⟩ ?_
    have h := vals_each (m + 1) t fun i => by
      have := e (i + 1)
      rw [List.getElem?_cons_succ] at this
      rw [this]
      congr 1
      omega
    have ee : ((fun i => m + i) ∘ Nat.succ) = fun i => m + 1 + i := by
      funext i
      show m + (i + 1) = m + 1 + i
      omega
    rw [ee]
    exact h
theorem get_freed {h : Heap} {a : Addr} : (h.update a fun o => { o with data := .freed }).get? a = none := by
  cases h with
  | mk objs l =>
    unfold Heap.get? Heap.update
    simp only [Array.getElem?_modify, if_true]
    cases objs[a]? with
    | none => rfl
    | some o => rfl
theorem sort_keyed {sco : Scope} {f c' l : Addr} {md ctw : Value} {prs : Arguments} {what : Expr} {k pi : Nat} {a : Str} {tk : TE} {xs : List V} {kd : Nat → PyData} {W : Hp → Prop} {Q : VK}
    (I : Inv X pins σ H s) (M1 : LamOne a X.env.scope sco) (nd : X.N.Nodup) (hip : X.N[pi]? = some a)
    (hbind : ∀ u : Value, bindArgs (PySem.W.kla_fn "<lambda>" (X.env.qual ++ "<lambda>") prs what sco (cloFrom X.env.cells sco.names []) md (.ref c') ctw) ⟨[u], []⟩ = pure [(a, u)])
    (hr : Room (k + 3) X.A) (hbody : ∀ (A : Around) (out : List Env) (s : Shared) (H : Hp), Room k (A.deeper (lamEnv X sco s.heap.objs.size f c')) → PE (lamCtx X A out s H sco f c') what tk)
    (kw : KeyS X.K tk pi σ xs kd W) (hW : ∀ H', W H' → H' c' = some (CodeO c' (X.env.qual ++ "<lambda>"))) (w : W H) (hl : SqL X.K H l xs) (ffr : f ∉ frs X.stack) (nf : H f = none)
    (hf : s.heap.get? f = some (PySem.W.kla_obj "<lambda>" (X.env.qual ++ "<lambda>") prs what sco (cloFrom X.env.cells sco.names []) md c' ctw))
    (hal : AllAlike ((List.range xs.length).map kd)) (hso : Sortable ((List.range xs.length).map kd)) (hdp : ∀ i, i < xs.length → (kd i).depth ≤ 40) (hcl : ∀ i, i < xs.length → (kd i).canLay0 = true)
    (q : ∀ p H', W H' → H' p = none → H p = none → Q (.ref p) (upd H' p (.lst ((sortO xs.length kd).map fun i => xs.getD i .non)))) :
    wpAny (model X.prog X.w) X.A (call (.builtin "sorted") [.ref l] [(Str.ofString "key", .ref f)]) (EP X pins σ Q) X.xe s := by
  obtain ⟨its, rv, pl, hz⟩ := I.list hl
  have li := rv.length
  have hz2 : its.length ≤ sizeLine := by omega
  refine sorted_of_sort (vs := its) pl.isList hz2 (ksk_s1 _ _) (fun _ => ksk_l1 _ _) fun E' => ?_
  rw [ksk_t1]
  have ho := copyHeap_at s.heap its
  have la : s.heap.objs.size ≤ s.heap.objs.size + 1 := Nat.le_succ _
  generalize hA : s.heap.objs.size + 1 = A0 at ho la ⊢
  have old1 : ∀ b o, s.heap.get? b = some o → (copyHeap s.heap its).get? b = some o := fun b o e => copyHeap_old e
  have ltA : ∀ b o, s.heap.get? b = some o → b < A0 := fun b o e => Nat.lt_of_lt_of_le (Heap.lt_size e) la
  generalize copyHeap s.heap its = g1 at ho old1 ⊢
  obtain ⟨e1, ho1⟩ : ∃ e1, (g1.update A0 (Obj.mapSeq fun _ => (#[] : Array Value))).get? A0 = some (seqObj "list" #[] e1) := ⟨_, get?_update_seq ho fun _ => #[]⟩
  have lA1 := Heap.lt_size ho1
  have old2 : ∀ b o, s.heap.get? b = some o → (g1.update A0 (Obj.mapSeq fun _ => (#[] : Array Value))).get? b = some o := fun b o e => (Heap.get?_update_ne _ _ _ _ (Nat.ne_of_lt (ltA b o e))).trans (old1 b o e)
  unfold ksk_tree
  refine wpAny_bind (listItems_at ho rfl ?_)
  refine wpAny_bind (listUpdate_at ho rfl ?_ (by rw [List.size_toArray]; exact hz2) (Nat.zero_le _))
  refine wpAny_bind (seqEpoch_at ho1 rfl ?_)
  refine wpAny_bind (wpAny_newTuple ?_ (by show its.length ≤ _; exact hz2))
  refine wpAny_bind (wpAny_newList ?_ (Nat.zero_le _))
  refine wpAny_holding ?_
  have lk : ((g1.update A0 (Obj.mapSeq fun _ => (#[] : Array Value))).push (seqObj "tuple" its.toArray 0)).objs.size = (g1.update A0 (Obj.mapSeq fun _ => (#[] : Array Value))).objs.size + 1 := size_push' ..
  show wpAny (model X.prog X.w) X.A.in1.in1 (ksk_rest A0 (.ref f) false its.toArray e1 (.ref ((g1.update A0 (Obj.mapSeq fun _ => (#[] : Array Value))).push (seqObj "tuple" its.toArray 0)).objs.size)) _ _ { s with heap := ((g1.update A0 (Obj.mapSeq fun _ => (#[] : Array Value))).push (seqObj "tuple" its.toArray 0)).push (seqObj "list" #[] 0) }
  generalize hG : g1.update A0 (Obj.mapSeq fun _ => (#[] : Array Value)) = g2 at ho1 lA1 old2 lk ⊢
  generalize hg3 : g2.push (seqObj "tuple" its.toArray 0) = g3 at lk ⊢
  have old3 : ∀ b o, g2.get? b = some o → g3.get? b = some o := fun b o e => by rw [← hg3]; exact Heap.get?_push_of_some _ e
  generalize hK : g3.objs.size = kS at lk ⊢
  have nk0 : (g3.push (seqObj "list" #[] 0)).get? kS = some (seqObj "list" #[] 0) := by rw [← hK]; exact Heap.get?_push_size _ rfl
  have old4 : ∀ b o, g2.get? b = some o → (g3.push (seqObj "list" #[] 0)).get? b = some o := fun b o e => Heap.get?_push_of_some _ (old3 b o e)
  have lAK : A0 < kS := by rw [lk]; exact Nat.lt_succ_of_lt lA1
  have hkA : kS ≠ A0 := Nat.ne_of_gt lAK
  generalize g3.push (seqObj "list" #[] 0) = g4 at nk0 old4 ⊢
  have I4 : Inv X pins σ H { s with heap := g4, toks := s.toks } := I.kept fun b u e => old4 b u (old2 b u e)
  have hsA : s.heap.objs.size ≤ A0 := la
  have hsK : s.heap.objs.size ≤ kS := Nat.le_trans la (Nat.le_of_lt lAK)
  have na : H A0 = none := I.hok.fresh hsA
  have nk : H kS = none := I.hok.fresh hsK
  have Afr := far_frs I hsA
  have Kfr := far_frs I hsK
  have pA : ∀ H', H' A0 = none → FpOk X pins H' A0 := fun H' h => I.fpOk hsA h
  have pK : ∀ H', H' kS = none → FpOk X pins H' kS := fun H' h => I.fpOk hsK h
  have lf := Heap.lt_size hf
  have fA : f ≠ A0 := Nat.ne_of_lt (Nat.lt_of_lt_of_le lf hsA)
  have fK : f ≠ kS := Nat.ne_of_lt (Nat.lt_of_lt_of_le lf hsK)
  have hf4 : g4.get? f = some (PySem.W.kla_obj "<lambda>" (X.env.qual ++ "<lambda>") prs what sco (cloFrom X.env.cells sco.names []) md c' ctw) := old4 _ _ (old2 _ _ hf)
  have na0 : g4.get? A0 = some (seqObj "list" #[] e1) := old4 _ _ ho1
  unfold ksk_rest
  refine wpAny_bind (wpAny_rule ?_)
  first
    | rw [List.forIn_toArray]
    | (rw [← Array.forIn_toList]; simp only [List.toList_toArray])
    | rw [← Array.forIn_toList]
  refine wpAny_bind (ksk_fold (fun i s' => ∃ H' kA e, Inv X pins σ H' s' ∧ W H' ∧ H' f = none ∧ H' A0 = none ∧ H' kS = none ∧ s'.heap.get? f = some (PySem.W.kla_obj "<lambda>" (X.env.qual ++ "<lambda>") prs what sco (cloFrom X.env.cells sco.names []) md c' ctw) ∧ s'.heap.get? kS = some (seqObj "list" kA e) ∧ s'.heap.get? A0 = some (seqObj "list" #[] e1) ∧ EachIs (fun v d => ∃ r, RelV r v ∧ Dq X.K H' r d) kA.toList (((List.range xs.length).map kd).take i)) its 0 _
    ⟨H, #[], 0, I4, w, nf, na, nk, hf4, nk0, na0, by rw [List.take_zero]; exact EachIs.nil⟩ ?step ?done)
  case step =>
    rintro j x s' hx ⟨H', kA, e, I', w', n1, n2, n3, f1, f2, f3, hk⟩
    simp only [Nat.zero_add] at hk ⊢
    have hj : j < its.length := (List.getElem?_eq_some_iff.mp hx).1
    obtain ⟨y, hy⟩ : ∃ y, xs[j]? = some y := ⟨_, List.getElem?_eq_getElem (by omega)⟩
    obtain ⟨uu, hu, ru⟩ := rv.get hy
    rw [hx] at hu
    cases hu
    have hz3 : kA.size ≤ its.length := by
      have h1 := hk.length
      rw [Array.length_toList, List.length_take, List.length_map, List.length_range] at h1
      omega
    refine wpAny_bind (wpAny_attempt (wpAny_mono (lam_callA (E := fun _ _ => False) (Q := fun r H'' => Dq X.K H'' r (kd j) ∧ W H'' ∧ Sam H' H'') I' M1 nd hip ru f1 (hW H' w') (hbind x) hr.in1.in1 I'.env0.in1.in1 hbody (kw.key j y H' hy w')) (fun v s2 hq => ?_) fun _ _ hF => hF.elim))
    obtain ⟨r, H2, I2, rr, ⟨dq, w2, sm⟩, un⟩ := hq
    have f1' := un.keep f _ f1 n1 ffr (by simp)
    have f2' := un.keep kS _ f2 n3 Kfr (by simp)
    have f3' := un.keep A0 _ f3 n2 Afr (by simp)
    have m1 := un.free f _ f1 n1 (by simp)
    have m2 := un.free A0 _ f3 n2 (by simp)
    have m3 := un.free kS _ f2 n3 (by simp)
    try dsimp only
    refine wpAny_bind (listUpdate_at f2' rfl ?_ (Nat.le_trans hz3 hz2) (Nat.le_trans (Nat.le_of_eq (Array.size_push ..)) (Nat.succ_le_succ (Nat.le_trans hz3 hz2))))
    obtain ⟨e2, up⟩ : ∃ e2, (s2.heap.update kS (Obj.mapSeq (·.push v))).get? kS = some (seqObj "list" (kA.push v) e2) := ⟨_, get?_update_seq f2' (·.push v)⟩
    have away : ∀ b o, b ∉ [kS] → s2.heap.get? b = some o → (s2.heap.update kS (Obj.mapSeq (·.push v))).get? b = some o := fun b o hb e => (Heap.get?_update_ne _ _ _ _ (fun z => hb (List.mem_singleton.mpr z))).trans e
    have I3 := I2.turnedL (t' := s2.toks) (ch := [kS]) away fun b hb => by rw [List.mem_singleton.mp hb]; exact pK H2 m3
    refine wpAny_pure ⟨rfl, H2, kA.push v, e2, I3, w2, m1, m2, m3, away f _ (by simp [fK]) f1', up, away A0 _ (by simp [hkA.symm]) f3', ?_⟩
    have tk1 : ((List.range xs.length).map kd).take (j + 1) = ((List.range xs.length).map kd).take j ++ [kd j] := by
      rw [List.take_add_one, List.getElem?_map, List.getElem?_range (by omega)]
      rfl
    have tk2 : (kA.push v).toList = kA.toList ++ [v] := by simp
    rw [tk1, tk2]
    exact each_snoc (R := fun v d => ∃ r, RelV r v ∧ Dq X.K H2 r d) ⟨r, rr, dq⟩ (hk.mono fun u d ⟨r, a1, a2⟩ => ⟨r, a1, Dq.up sm _ _ a2⟩)
  case done =>
    rintro s' ⟨H', kA, e, I', w', n1, n2, n3, f1, f2, f3, hk⟩
    have all : ((List.range xs.length).map kd).take (0 + its.length) = (List.range xs.length).map kd := List.take_of_length_le (by rw [List.length_map, List.length_range]; omega)
    rw [all] at hk
    have hk2 : EachIs (fun v d => ∃ as, Reads s'.heap v d as) kA.toList ((List.range xs.length).map kd) := by
      refine (each_mem hk).mono fun v d ⟨⟨r, a1, a2⟩, hd⟩ => ?_
      obtain ⟨i, mi, rfl⟩ := List.mem_map.mp hd
      exact Dp.reads I' _ _ _ (Dq.dp _ _ a2 (hcl i (List.mem_range.mp mi))) a1
    have sz : kA.size = its.length := by
      have h1 := hk2.length
      rw [Array.length_toList, List.length_map, List.length_range] at h1
      omega
    try dsimp only
    refine wpAny_bind (listItems_at f2 rfl ?_)
    obtain ⟨h₁, k0, k1⟩ : ∃ h₁ : Heap, h₁.get? kS = none ∧ ∀ b, b ≠ kS → h₁.get? b = s'.heap.get? b := by
      refine ⟨s'.heap.update kS (fun o => { o with data := .freed }), ?_, fun b hb => Heap.get?_update_ne _ _ _ _ hb⟩
      exact get_freed
    refine keyH_end (κ := dataKind s'.heap ((List.range xs.length).map kd)) (h₁ := h₁) (fun b o hb eb => ?_) k0 f2 f3 hkA (SortsAt.data hk2 hal hso fun d hd => ?_) sz hz2 fun h' tk c kp gA => ⟨rfl, ?_⟩
    · by_cases hb2 : b = kS
      · rw [hb2, k0] at eb; cases eb
      · rw [← k1 b hb2]; exact eb
    · obtain ⟨i, mi, rfl⟩ := List.mem_map.mp hd
      have := hdp i (List.mem_range.mp mi)
      have := hr.units
      show X.A.in1.in1.units + _ < cLine
      have e2 : X.A.in1.in1.units ≤ X.A.units + 2 := Nat.le_refl _
      omega
    · have away : ∀ b o, b ∉ [kS, A0] → s'.heap.get? b = some o → h'.get? b = some o := fun b o hb eb => by
        have b1 : b ≠ kS := fun z => hb (by simp [z])
        have b2 : b ≠ A0 := fun z => hb (by simp [z])
        exact kp b o b2 ((k1 b b1).trans eb)
      have I5 := I'.turnedL (t' := tk) (ch := [kS, A0]) away fun b hb => by
        rcases List.mem_cons.mp hb with z | z
        · rw [z]; exact pK H' n3
        · rw [List.mem_singleton.mp z]; exact pA H' n2
      have eo : EachIs (fun v i => ∃ x, xs[i]? = some x ∧ RelV x v) (sortVals (dataKind s'.heap ((List.range xs.length).map kd)) false kA.toList its) (sortO xs.length kd) := by
        refine keyedOut_each kd (vs := its) ⟨s'.heap, kA.toList, hal, rfl, hk2⟩ ?_
        have := vals_each (xs := xs) 0 rv fun i => by rw [Nat.zero_add]
        have e0 : ((List.range xs.length).map fun i => 0 + i) = List.range xs.length := by
          rw [show (fun i => 0 + i) = (id : Nat → Nat) from funext fun i => Nat.zero_add i, List.map_id]
        rw [e0] at this
        exact this
      have vo := each_vals eo
      have lo := vo.length
      have ls : ((sortO xs.length kd).map fun i => xs.getD i .non).length = xs.length := by
        unfold sortO
        rw [List.length_map, List.length_mergeSort, List.length_range]
      refine ⟨.ref A0, _, I5.take (t' := tk) (fun b o _ e => e) (pA H' n2) (o := .lst ((sortO xs.length kd).map fun i => xs.getD i .non)) ?_, rfl, q A0 H' w' n2 na⟩
      exact ⟨by rw [ls]; exact hz, _, c, vo, gA⟩
/-- sorted(l, key=a lambda): a new list -/
def tSortK [TabEnv] (K : PySem.W.Frag) (pi : Nat) (ta tk : TE) : TE := fun σ H Q => ta σ H fun v H1 => TabsG H1 ∧ ∃ a, v = .ref a ∧ ∀ H2, Sam H1 H2 → TabsG H2 → ∃ (xs : List V) (kd : Nat → PyData) (W : Hp → Prop), (∀ H', W H' → Sam H2 H') ∧ W H2 ∧ SqL K H2 a xs ∧ KeyS K tk pi σ xs kd W ∧
  AllAlike ((List.range xs.length).map kd) ∧ Sortable ((List.range xs.length).map kd) ∧ (∀ i, i < xs.length → (kd i).depth ≤ 40) ∧ (∀ i, i < xs.length → (kd i).canLay0 = true) ∧
  ∀ p H', W H' → H' p = none → H2 p = none → Q (.ref p) (upd H' p (.lst ((sortO xs.length kd).map fun i => xs.getD i .non)))
section
variable [G : TabEnv] {e : Expr} {ta tk : TE} {c P : Addr} {prs : Arguments} {what : Expr} {sco : Scope} {p pos lpos kpos : Pos} {k pi : Nat} {a : Str}
theorem pe_sortK (hg : Gl X "sorted") (hm : X.mg "sorted" = none) (he : PE X e ta) (TB : TabB X.base X.mg c P) (hcode : X.env.code = .ref c) (hmT : (P, X.env.qual ++ "<lambda>") ∈ G.T) (M1 : LamOne a X.env.scope sco) (nd : X.N.Nodup) (hip : X.N[pi]? = some a) (hr : Room (k + 3) X.A)
    (hbind : ∀ (md ctw u : Value) (c' : Addr), bindArgs (PySem.W.kla_fn "<lambda>" (X.env.qual ++ "<lambda>") prs what sco (cloFrom X.env.cells sco.names []) md (.ref c') ctw) ⟨[u], []⟩ = pure [(a, u)])
    (hbody : ∀ (A : Around) (out : List Env) (s : Shared) (H : Hp) (f c' : Addr), Room k (A.deeper (lamEnv X sco s.heap.objs.size f c')) → PE (lamCtx X A out s H sco f c') what tk) (hdef : defaultsOf prs X.env = ([], []) := by rfl)
    (hst : backTo pos (starEach [e] X.env) = (false, eval e X.env) :: backTo pos (starEach [] X.env) := by rfl) :
    PE X (.Call (.Name "sorted" p) [e] [⟨some "key", .Lambda prs what sco lpos, kpos⟩] pos) (tSortK X.K pi ta tk) := by
  refine ⟨fun pins s σ H Q I h => ?_⟩
  refine wpAny_Call_Name_kw (ld_blt I hg hm (by rfl) ?_)
  refine PyProof.Rows.callWith_kw ?_ hst (by rw [hst]; rfl)
  rw [hst]
  refine Calls.spliced_cons (thn (he.run pins s σ H _ I h) fun u s1 ⟨v, H1, I1, r1, tb, ax, ev, q⟩ => Calls.spliced_nil ?_)
  subst ev
  cases r1
  refine wpAny_evalAll_cons (wpAny_bind (lam_mk I1 tb TB hcode hmT hdef (M1.has I1.ok) fun f c' md ctw H2 s2 I2 sam tb2 hf nf ffr hco => wpAny_bind (wpAny_standAt (wpAny_pure (wpAny_evalAll_nil ?_)))))
  obtain ⟨xs, kd, W, hW, w, hl, kw, b1, b2, b3, b4, fin⟩ := q H2 sam tb2
  exact sort_keyed I2 M1 nd hip (hbind md ctw · c') hr (fun A out s H => hbody A out s H f c') kw (fun H' w => (hW H' w).at hco codeO_tbl) w hl ffr nf hf b1 b2 b3 b4 fin
end
end
end LamK
namespace DX
open PySem L2 LamK PySem.W
variable [TabEnv]
section
variable {K : PySem.W.Frag} {δ : List SV} {ta tb te tk : TE} {ds xs : List D} {m pi : Nat}
theorem getV_map {B : Hp} {vs : List V} (h : DqAll K B vs xs) {is : List Nat} (hi : ∀ i ∈ is, i < xs.length) : DqAll K B (is.map fun i => vs.getD i .non) (is.map fun i => xs.getD i .none) := by
  induction is with
  | nil => exact .nil
  | cons i is ih =>
    have hl := hi i (List.mem_cons_self ..)
    have hv : i < vs.length := by rw [h.len]; exact hl
    obtain ⟨d, hd, dv⟩ := h.getV (i := i) (List.getElem?_eq_getElem hv)
    refine .cons ?_ (ih fun j mj => hi j (List.mem_cons_of_mem _ mj))
    show Dq K B (vs.getD i .non) (xs.getD i .none)
    rw [List.getD_eq_getElem?_getD, List.getD_eq_getElem?_getD, hd, List.getElem?_eq_getElem hv]
    exact dv
/-- of a list that is known: the items stand by their keys, stably -/
theorem en_sortK (hx : ED K ta δ (.list xs)) (kd : Nat → D) (hk : ∀ i x, xs[i]? = some x → ED K tk (δ.set pi (.val x)) (kd i)) (b1 : AllAlike ((List.range xs.length).map kd)) (b2 : Sortable ((List.range xs.length).map kd)) (b3 : ∀ i, i < xs.length → (kd i).depth ≤ 40) (b4 : ∀ i, i < xs.length → (kd i).canLay0 = true) :
    EN K (tSortK K pi ta tk) δ ((sortO xs.length kd).map fun i => xs.getD i .none) := fun B0 H0 B H σ Q S q =>
  hx B0 H0 B H σ _ S fun v B1 H1 s1 dv => by
    cases dv with
    | @lst a vs _ hs hv =>
      refine ⟨s1.bh.tb, a, rfl, fun H2 sam tb => ?_⟩
      have st := Stp.tabs s1.bh sam tb
      have sq := (S.step s1).step st
      refine ⟨vs, kd, fun H' => ∃ B', Stp B1 H2 B' H', fun H' ⟨B', s⟩ => s.hh, ⟨B1, .refl st.bh⟩, st.bh.seq hs, ⟨fun i v H' hi ⟨B', s⟩ => ?_⟩, by rw [hv.len]; exact b1, by rw [hv.len]; exact b2, fun i hi => b3 i (by rw [← hv.len]; exact hi), fun i hi => b4 i (by rw [← hv.len]; exact hi), fun p H' ⟨B', s⟩ np n2 => ?_⟩
      · obtain ⟨d, hd, dv⟩ := hv.getV hi
        refine hk i d hd B0 H0 B' H' _ _ ((sq.step s).setVal (Dq.up s.bb _ _ dv)) fun r B'' H'' s2 dr => ?_
        exact ⟨Dq.up s2.bh _ _ dr, ⟨B'', s.trans s2⟩, s2.hh⟩
      · have fin := (s1.trans st).trans s
        rw [hv.len]
        refine q p _ B' _ (fin.trans (.newOwn s.bh np)) (fin.hh.free np) (s.bh.free np) upd_same (getV_map (DqAll.up s.bb _ _ hv) fun i hi => ?_)
        unfold sortO at hi
        exact List.mem_range.mp (List.mem_mergeSort.mp hi)
end
end DX

namespace LamK
open PySem L2 LamX PySem.Spec PyProof.Rows PySem.W
section
variable {X : Cx} {pins : List (Addr × Obj)} {σ : L2.St} {s : Shared} {H : Hp}
theorem sort_core {sco : Scope} {f c' A0 : Addr} {its : List Value} {n0 : Nat} {E' : Value → Shared → Prop} {md ctw : Value} {prs : Arguments} {what : Expr} {k pi : Nat} {a : Str} {tk : TE} {xs : List V} {kd : Nat → PyData} {W : Hp → Prop} {Q : VK}
    (I : Inv X pins σ H s) (M1 : LamOne a X.env.scope sco) (nd : X.N.Nodup) (hip : X.N[pi]? = some a)
    (hbind : ∀ u : Value, bindArgs (PySem.W.kla_fn "<lambda>" (X.env.qual ++ "<lambda>") prs what sco (cloFrom X.env.cells sco.names []) md (.ref c') ctw) ⟨[u], []⟩ = pure [(a, u)])
    (hr : Room (k + 3) X.A) (hbody : ∀ (A : Around) (out : List Env) (s : Shared) (H : Hp), Room k (A.deeper (lamEnv X sco s.heap.objs.size f c')) → PE (lamCtx X A out s H sco f c') what tk)
    (kw : KeyS X.K tk pi σ xs kd W) (hW : ∀ H', W H' → H' c' = some (CodeO c' (X.env.qual ++ "<lambda>"))) (w : W H) (rv : Vals xs its) (hz : xs.length ≤ sizeLine) (ho : s.heap.get? A0 = some (seqObj "list" its.toArray n0)) (na : H A0 = none) (pA : ∀ H', H' A0 = none → FpOk X pins H' A0) (Afr : A0 ∉ frs X.stack) (fA : f ≠ A0) (ffr : f ∉ frs X.stack) (nf : H f = none)
    (hf : s.heap.get? f = some (PySem.W.kla_obj "<lambda>" (X.env.qual ++ "<lambda>") prs what sco (cloFrom X.env.cells sco.names []) md c' ctw))
    (hal : AllAlike ((List.range xs.length).map kd)) (hso : Sortable ((List.range xs.length).map kd)) (hdp : ∀ i, i < xs.length → (kd i).depth ≤ 40) (hcl : ∀ i, i < xs.length → (kd i).canLay0 = true)
    (q : ∀ p H', W H' → H' p = none → H p = none → Q (.ref p) (upd H' p (.lst ((sortO xs.length kd).map fun i => xs.getD i .non)))) :
    wpAny (model X.prog X.w) X.A.in1.in1 (ksk_tree A0 (.ref f) false) (fun r s' => r = .done (.ret .none) ∧ EP X pins σ Q (.ref A0) s') E' s := by
  have li := rv.length
  have hz2 : its.length ≤ sizeLine := by omega
  have hAo := Heap.lt_size ho
  obtain ⟨e1, ho1⟩ : ∃ e1, (s.heap.update A0 (Obj.mapSeq fun _ => (#[] : Array Value))).get? A0 = some (seqObj "list" #[] e1) := ⟨_, get?_update_seq ho fun _ => #[]⟩
  have lA1 := Heap.lt_size ho1
  have old2 : ∀ b o, b ∉ [A0] → s.heap.get? b = some o → (s.heap.update A0 (Obj.mapSeq fun _ => (#[] : Array Value))).get? b = some o := fun b o hb e => (Heap.get?_update_ne _ _ _ _ fun z => hb (List.mem_singleton.mpr z)).trans e
  have hszU : (s.heap.update A0 (Obj.mapSeq fun _ => (#[] : Array Value))).objs.size = s.heap.objs.size := Heap.size_update ..
  unfold ksk_tree
  refine wpAny_bind (listItems_at ho rfl ?_)
  refine wpAny_bind (listUpdate_at ho rfl ?_ (by rw [List.size_toArray]; exact hz2) (Nat.zero_le _))
  refine wpAny_bind (seqEpoch_at ho1 rfl ?_)
  refine wpAny_bind (wpAny_newTuple ?_ (by show its.length ≤ _; exact hz2))
  refine wpAny_bind (wpAny_newList ?_ (Nat.zero_le _))
  refine wpAny_holding ?_
  have lk : ((s.heap.update A0 (Obj.mapSeq fun _ => (#[] : Array Value))).push (seqObj "tuple" its.toArray 0)).objs.size = (s.heap.update A0 (Obj.mapSeq fun _ => (#[] : Array Value))).objs.size + 1 := size_push' ..
  show wpAny (model X.prog X.w) X.A.in1.in1 (ksk_rest A0 (.ref f) false its.toArray e1 (.ref ((s.heap.update A0 (Obj.mapSeq fun _ => (#[] : Array Value))).push (seqObj "tuple" its.toArray 0)).objs.size)) _ _ { s with heap := ((s.heap.update A0 (Obj.mapSeq fun _ => (#[] : Array Value))).push (seqObj "tuple" its.toArray 0)).push (seqObj "list" #[] 0) }
  generalize hG : s.heap.update A0 (Obj.mapSeq fun _ => (#[] : Array Value)) = g2 at ho1 lA1 old2 lk hszU ⊢
  generalize hg3 : g2.push (seqObj "tuple" its.toArray 0) = g3 at lk ⊢
  have old3 : ∀ b o, g2.get? b = some o → g3.get? b = some o := fun b o e => by rw [← hg3]; exact Heap.get?_push_of_some _ e
  generalize hK : g3.objs.size = kS at lk ⊢
  have nk0 : (g3.push (seqObj "list" #[] 0)).get? kS = some (seqObj "list" #[] 0) := by rw [← hK]; exact Heap.get?_push_size _ rfl
  have old4 : ∀ b o, g2.get? b = some o → (g3.push (seqObj "list" #[] 0)).get? b = some o := fun b o e => Heap.get?_push_of_some _ (old3 b o e)
  have lAK : A0 < kS := by rw [lk]; exact Nat.lt_succ_of_lt lA1
  have hkA : kS ≠ A0 := Nat.ne_of_gt lAK
  generalize g3.push (seqObj "list" #[] 0) = g4 at nk0 old4 ⊢
  have I4 : Inv X pins σ H { s with heap := g4, toks := s.toks } := I.turnedL (ch := [A0]) (fun b o hb e => old4 b o (old2 b o hb e)) fun b hb => by rw [List.mem_singleton.mp hb]; exact pA H na
  have hsK : s.heap.objs.size ≤ kS := by rw [lk, hszU]; exact Nat.le_succ _
  have nk : H kS = none := I.hok.fresh hsK
  have Kfr := far_frs I hsK
  have pK : ∀ H', H' kS = none → FpOk X pins H' kS := fun H' h => I.fpOk hsK h
  have lf := Heap.lt_size hf
  have fK : f ≠ kS := Nat.ne_of_lt (Nat.lt_of_lt_of_le lf hsK)
  have hf4 : g4.get? f = some (PySem.W.kla_obj "<lambda>" (X.env.qual ++ "<lambda>") prs what sco (cloFrom X.env.cells sco.names []) md c' ctw) := old4 _ _ (old2 _ _ (by simp [fA]) hf)
  have na0 : g4.get? A0 = some (seqObj "list" #[] e1) := old4 _ _ ho1
  unfold ksk_rest
  refine wpAny_bind (wpAny_rule ?_)
  first
    | rw [List.forIn_toArray]
    | (rw [← Array.forIn_toList]; simp only [List.toList_toArray])
    | rw [← Array.forIn_toList]
  refine wpAny_bind (ksk_fold (fun i s' => ∃ H' kA e, Inv X pins σ H' s' ∧ W H' ∧ H' f = none ∧ H' A0 = none ∧ H' kS = none ∧ s'.heap.get? f = some (PySem.W.kla_obj "<lambda>" (X.env.qual ++ "<lambda>") prs what sco (cloFrom X.env.cells sco.names []) md c' ctw) ∧ s'.heap.get? kS = some (seqObj "list" kA e) ∧ s'.heap.get? A0 = some (seqObj "list" #[] e1) ∧ EachIs (fun v d => ∃ r, RelV r v ∧ Dq X.K H' r d) kA.toList (((List.range xs.length).map kd).take i)) its 0 _
    ⟨H, #[], 0, I4, w, nf, na, nk, hf4, nk0, na0, by rw [List.take_zero]; exact EachIs.nil⟩ ?step ?done)
  case step =>
    rintro j x s' hx ⟨H', kA, e, I', w', n1, n2, n3, f1, f2, f3, hk⟩
    simp only [Nat.zero_add] at hk ⊢
    have hj : j < its.length := (List.getElem?_eq_some_iff.mp hx).1
    obtain ⟨y, hy⟩ : ∃ y, xs[j]? = some y := ⟨_, List.getElem?_eq_getElem (by omega)⟩
    obtain ⟨uu, hu, ru⟩ := rv.get hy
    rw [hx] at hu
    cases hu
    have hz3 : kA.size ≤ its.length := by
      have h1 := hk.length
      rw [Array.length_toList, List.length_take, List.length_map, List.length_range] at h1
      omega
    refine wpAny_bind (wpAny_attempt (wpAny_mono (lam_callA (E := fun _ _ => False) (Q := fun r H'' => Dq X.K H'' r (kd j) ∧ W H'' ∧ Sam H' H'') I' M1 nd hip ru f1 (hW H' w') (hbind x) hr.in1.in1 I'.env0.in1.in1 hbody (kw.key j y H' hy w')) (fun v s2 hq => ?_) fun _ _ hF => hF.elim))
    obtain ⟨r, H2, I2, rr, ⟨dq, w2, sm⟩, un⟩ := hq
    have f1' := un.keep f _ f1 n1 ffr (by simp)
    have f2' := un.keep kS _ f2 n3 Kfr (by simp)
    have f3' := un.keep A0 _ f3 n2 Afr (by simp)
    have m1 := un.free f _ f1 n1 (by simp)
    have m2 := un.free A0 _ f3 n2 (by simp)
    have m3 := un.free kS _ f2 n3 (by simp)
    try dsimp only
    refine wpAny_bind (listUpdate_at f2' rfl ?_ (Nat.le_trans hz3 hz2) (Nat.le_trans (Nat.le_of_eq (Array.size_push ..)) (Nat.succ_le_succ (Nat.le_trans hz3 hz2))))
    obtain ⟨e2, up⟩ : ∃ e2, (s2.heap.update kS (Obj.mapSeq (·.push v))).get? kS = some (seqObj "list" (kA.push v) e2) := ⟨_, get?_update_seq f2' (·.push v)⟩
    have away : ∀ b o, b ∉ [kS] → s2.heap.get? b = some o → (s2.heap.update kS (Obj.mapSeq (·.push v))).get? b = some o := fun b o hb e => (Heap.get?_update_ne _ _ _ _ (fun z => hb (List.mem_singleton.mpr z))).trans e
    have I3 := I2.turnedL (t' := s2.toks) (ch := [kS]) away fun b hb => by rw [List.mem_singleton.mp hb]; exact pK H2 m3
    refine wpAny_pure ⟨rfl, H2, kA.push v, e2, I3, w2, m1, m2, m3, away f _ (by simp [fK]) f1', up, away A0 _ (by simp [hkA.symm]) f3', ?_⟩
    have tk1 : ((List.range xs.length).map kd).take (j + 1) = ((List.range xs.length).map kd).take j ++ [kd j] := by
      rw [List.take_add_one, List.getElem?_map, List.getElem?_range (by omega)]
      rfl
    have tk2 : (kA.push v).toList = kA.toList ++ [v] := by simp
    rw [tk1, tk2]
    exact each_snoc (R := fun v d => ∃ r, RelV r v ∧ Dq X.K H2 r d) ⟨r, rr, dq⟩ (hk.mono fun u d ⟨r, a1, a2⟩ => ⟨r, a1, Dq.up sm _ _ a2⟩)
  case done =>
    rintro s' ⟨H', kA, e, I', w', n1, n2, n3, f1, f2, f3, hk⟩
    have all : ((List.range xs.length).map kd).take (0 + its.length) = (List.range xs.length).map kd := List.take_of_length_le (by rw [List.length_map, List.length_range]; omega)
    rw [all] at hk
    have hk2 : EachIs (fun v d => ∃ as, Reads s'.heap v d as) kA.toList ((List.range xs.length).map kd) := by
      refine (each_mem hk).mono fun v d ⟨⟨r, a1, a2⟩, hd⟩ => ?_
      obtain ⟨i, mi, rfl⟩ := List.mem_map.mp hd
      exact Dp.reads I' _ _ _ (Dq.dp _ _ a2 (hcl i (List.mem_range.mp mi))) a1
    have sz : kA.size = its.length := by
      have h1 := hk2.length
      rw [Array.length_toList, List.length_map, List.length_range] at h1
      omega
    try dsimp only
    refine wpAny_bind (listItems_at f2 rfl ?_)
    obtain ⟨h₁, k0, k1⟩ : ∃ h₁ : Heap, h₁.get? kS = none ∧ ∀ b, b ≠ kS → h₁.get? b = s'.heap.get? b := by
      refine ⟨s'.heap.update kS (fun o => { o with data := .freed }), ?_, fun b hb => Heap.get?_update_ne _ _ _ _ hb⟩
      exact get_freed
    refine keyH_end (κ := dataKind s'.heap ((List.range xs.length).map kd)) (h₁ := h₁) (fun b o hb eb => ?_) k0 f2 f3 hkA (SortsAt.data hk2 hal hso fun d hd => ?_) sz hz2 fun h' tk c kp gA => ⟨rfl, ?_⟩
    · by_cases hb2 : b = kS
      · rw [hb2, k0] at eb; cases eb
      · rw [← k1 b hb2]; exact eb
    · obtain ⟨i, mi, rfl⟩ := List.mem_map.mp hd
      have := hdp i (List.mem_range.mp mi)
      have := hr.units
      show X.A.in1.in1.units + _ < cLine
      have e2 : X.A.in1.in1.units ≤ X.A.units + 2 := Nat.le_refl _
      omega
    · have away : ∀ b o, b ∉ [kS, A0] → s'.heap.get? b = some o → h'.get? b = some o := fun b o hb eb => by
        have b1 : b ≠ kS := fun z => hb (by simp [z])
        have b2 : b ≠ A0 := fun z => hb (by simp [z])
        exact kp b o b2 ((k1 b b1).trans eb)
      have I5 := I'.turnedL (t' := tk) (ch := [kS, A0]) away fun b hb => by
        rcases List.mem_cons.mp hb with z | z
        · rw [z]; exact pK H' n3
        · rw [List.mem_singleton.mp z]; exact pA H' n2
      have eo : EachIs (fun v i => ∃ x, xs[i]? = some x ∧ RelV x v) (sortVals (dataKind s'.heap ((List.range xs.length).map kd)) false kA.toList its) (sortO xs.length kd) := by
        refine keyedOut_each kd (vs := its) ⟨s'.heap, kA.toList, hal, rfl, hk2⟩ ?_
        have := vals_each (xs := xs) 0 rv fun i => by rw [Nat.zero_add]
        have e0 : ((List.range xs.length).map fun i => 0 + i) = List.range xs.length := by
          rw [show (fun i => 0 + i) = (id : Nat → Nat) from funext fun i => Nat.zero_add i, List.map_id]
        rw [e0] at this
        exact this
      have vo := each_vals eo
      have lo := vo.length
      have ls : ((sortO xs.length kd).map fun i => xs.getD i .non).length = xs.length := by
        unfold sortO
        rw [List.length_map, List.length_mergeSort, List.length_range]
      refine ⟨.ref A0, _, I5.take (t' := tk) (fun b o _ e => e) (pA H' n2) (o := .lst ((sortO xs.length kd).map fun i => xs.getD i .non)) ?_, rfl, q A0 H' w' n2 na⟩
      exact ⟨by rw [ls]; exact hz, _, c, vo, gA⟩
/-- range(e), its object laid just now -/
theorem rng_fresh {a : Expr} {ta : TE} {p pos : Pos} {Q : Int → Hp → Prop} (hg : Gl X "range") (hm : X.mg "range" = none) (ha : PE X a ta) (I : Inv X pins σ H s) (h : ta σ H fun x H1 => ∃ n, x = .int n ∧ Q n H1) (na : starEach [a] X.env = (false, eval a X.env) :: starEach [] X.env) :
    wpAny (model X.prog X.w) X.A (eval (.Call (.Name "range" p) [a] [] pos) X.env) (fun x s' => ∃ r n t u v H', x = .ref r ∧ IsRange s'.heap r 0 n 1 t u v ∧ Inv X pins σ H' s' ∧ FpOk X pins H' r ∧ Q n H') X.xe s := by
  refine Call_ (ld_blt I hg hm boot_range (PyProof.Rows.callWith_type1 (one_arg ha I h (fun v s2 x H2 I2 r q => ?_) na) na))
  obtain ⟨n, rfl, q⟩ := q
  obtain ⟨t, rfl⟩ := r
  exact call_range_1 ⟨_, n, _, _, _, H2, rfl, IsRange.new _ _ _ _ _ _ _, I2.kept fun b u e => Heap.get?_push_of_some _ e, I2.fpOk (Nat.le_refl _) (I2.hok.fresh (Nat.le_refl _)), q⟩
def tSortKR [TabEnv] (K : PySem.W.Frag) (pi : Nat) (ta tk : TE) : TE := fun σ H Q => ta σ H fun x H1 => ∃ n : Int, x = .int n ∧ TabsG H1 ∧ RgOk 0 n ∧ ∀ H2, Sam H1 H2 → TabsG H2 → ∃ (kd : Nat → PyData) (W : Hp → Prop), (∀ H', W H' → Sam H2 H') ∧ W H2 ∧ KeyS K tk pi σ (rgV 0 n) kd W ∧
  AllAlike ((List.range (rgV 0 n).length).map kd) ∧ Sortable ((List.range (rgV 0 n).length).map kd) ∧ (∀ i, i < (rgV 0 n).length → (kd i).depth ≤ 40) ∧ (∀ i, i < (rgV 0 n).length → (kd i).canLay0 = true) ∧
  ∀ p H', W H' → H' p = none → H2 p = none → Q (.ref p) (upd H' p (.lst ((sortO (rgV 0 n).length kd).map fun i => (rgV 0 n).getD i .non)))
section
variable [G : TabEnv] {e : Expr} {ta tk : TE} {c P : Addr} {prs : Arguments} {what : Expr} {sco : Scope} {p p2 pos pos2 lpos kpos : Pos} {k pi : Nat} {a : Str}
theorem pe_sortKR (hg : Gl X "sorted") (hm : X.mg "sorted" = none) (hgr : Gl X "range") (hmr : X.mg "range" = none) (he : PE X e ta) (TB : TabB X.base X.mg c P) (hcode : X.env.code = .ref c) (hmT : (P, X.env.qual ++ "<lambda>") ∈ G.T) (M1 : LamOne a X.env.scope sco) (nd : X.N.Nodup) (hip : X.N[pi]? = some a) (hr : Room (k + 3) X.A)
    (hbind : ∀ (md ctw u : Value) (c' : Addr), bindArgs (PySem.W.kla_fn "<lambda>" (X.env.qual ++ "<lambda>") prs what sco (cloFrom X.env.cells sco.names []) md (.ref c') ctw) ⟨[u], []⟩ = pure [(a, u)])
    (hbody : ∀ (A : Around) (out : List Env) (s : Shared) (H : Hp) (f c' : Addr), Room k (A.deeper (lamEnv X sco s.heap.objs.size f c')) → PE (lamCtx X A out s H sco f c') what tk) (hdef : defaultsOf prs X.env = ([], []) := by rfl)
    (na : starEach [e] X.env = (false, eval e X.env) :: starEach [] X.env := by rfl)
    (hst : backTo pos (starEach [.Call (.Name "range" p2) [e] [] pos2] X.env) = (false, eval (.Call (.Name "range" p2) [e] [] pos2) X.env) :: backTo pos (starEach [] X.env) := by rfl) :
    PE X (.Call (.Name "sorted" p) [.Call (.Name "range" p2) [e] [] pos2] [⟨some "key", .Lambda prs what sco lpos, kpos⟩] pos) (tSortKR X.K pi ta tk) := by
  refine ⟨fun pins s σ H Q I h => ?_⟩
  refine wpAny_Call_Name_kw (ld_blt I hg hm (by rfl) ?_)
  refine PyProof.Rows.callWith_kw ?_ hst (by rw [hst]; rfl)
  rw [hst]
  refine Calls.spliced_cons (thn (rng_fresh hgr hmr he I h na) fun u s1 ⟨r, n, t1, t2, t3, H1, ev, ir, I1, fp, q⟩ => Calls.spliced_nil ?_)
  obtain ⟨tb, ok, q⟩ := q
  subst ev
  have Ip : Inv X (pins ++ [(r, { cls := .type "range", dict := none, data := .fields #[.int 0 t1, .int n t2, .int 1 t3], slots := #[] })]) σ H1 s1 := I1.pins_of fun y hy => by
    rcases List.mem_append.mp hy with z | z
    · exact I1.pin y (List.mem_append_right _ z)
    · rw [List.mem_singleton.mp z]
      exact ⟨ir, fp.1, fp.2.1, fp.2.2.1, fun v z => by cases z⟩
  refine wpAny_evalAll_cons (wpAny_bind (lam_mk Ip tb TB hcode hmT hdef (M1.has I1.ok) fun f c' md ctw H2 s2 Ip2 sam tb2 hf nf ffr hco => wpAny_bind (wpAny_standAt (wpAny_pure (wpAny_evalAll_nil ?_)))))
  have ir2 : IsRange s2.heap r 0 n 1 t1 t2 t3 := (Ip2.pin (r, _) (List.mem_append_right _ (List.mem_append_right _ (List.mem_singleton.mpr rfl)))).1
  have I2 := Ip2.unpinned
  obtain ⟨kd, W, hW, w, kw, b1, b2, b3, b4, fin⟩ := q H2 sam tb2
  obtain ⟨o1, o2, o3, o4, o5⟩ := ok
  show wpAny (model X.prog X.w) X.A (call (.builtin "sorted") [.ref r] [(Str.ofString "key", .ref f)]) _ _ _
  refine call_function_entry_kw kind_sorted plain_sorted entry_sorted (ksk_s1 _ _) ?_
  unfold Builtin.«sorted»
  have hd : X.A.in1.handled = none := hr.in1.hd
  refine wpAny_bind (m := checkCount "sorted" 1 1 _) (wpAny_pure (wpAny_bind (collect_range (n := (n - 0).toNat) hd ir2 (small_one o1 o2 o3 o4) (rangeSize_nat 0 n) o5 fun h' tk acc hk hi => ?_)))
  have rv : Vals (rgV 0 n) acc.toList := vals_rg hi
  have lr := rgV_length 0 n
  have hz : (rgV 0 n).length ≤ sizeLine := by rw [lr, sizeLine_eq]; omega
  have la := rv.length
  refine wpAny_bind (wpAny_newList ?_ (by omega))
  have Ik : Inv X pins σ H2 { s2 with heap := h', toks := tk } := I2.kept hk
  have I3 : Inv X pins σ H2 { s2 with heap := h'.push { cls := .type "list", data := .seq acc.toList.toArray }, toks := tk } := Ik.kept (t' := tk) fun b o e => Heap.get?_push_of_some _ e
  have ho : (h'.push { cls := .type "list", data := .seq acc.toList.toArray }).get? h'.objs.size = some (seqObj "list" acc.toList.toArray 0) := Heap.get?_push_size _ rfl
  have lf : f < h'.objs.size := Heap.lt_size (hk f _ hf)
  refine wpAny_bind (wpAny_holding (wpAny_call_entry_kw slot_list_sort ⟨_, ho, rfl⟩ entry_list_sort ?_ (ksk_l1 _ _)))
  rw [ksk_t1]
  refine wpAny_mono (sort_core (E' := X.xe) (n0 := 0) I3 M1 nd hip (hbind md ctw · c') hr (fun A out s H => hbody A out s H f c') kw (fun H' w => (hW H' w).at hco codeO_tbl) w rv hz ho (Ik.hok.fresh (Nat.le_refl _)) (fun H' h => Ik.fpOk (Nat.le_refl _) h) (far_frs Ik (Nat.le_refl _)) (Nat.ne_of_lt lf) ffr nf (Heap.get?_push_of_some _ (hk f _ hf)) b1 b2 b3 b4 fin) (fun r' s' hq => ?_) fun _ _ z => ?_
  · obtain ⟨rfl, hq⟩ := hq
    exact ⟨_, rfl, wpAny_pure ⟨_, rfl, hq⟩⟩
  · exact z
end
end
end LamK
namespace DX
open PySem L2 LamK PySem.W
variable [TabEnv]
section
variable {K : PySem.W.Frag} {δ : List SV} {ta tb te tk : TE} {ds xs : List D} {m pi : Nat}
/-- sorted(range(n), key=..): the numbers stand by their keys, stably -/
theorem en_sortKR {n : Nat} (hx : ED K ta δ (.int (n : Int))) (hn : n ≤ 16777216) (kd : Nat → D) (hk : ∀ i, i < n → ED K tk (δ.set pi (.val (.int (i : Nat)))) (kd i)) (b1 : AllAlike ((List.range n).map kd)) (b2 : Sortable ((List.range n).map kd)) (b3 : ∀ i, i < n → (kd i).depth ≤ 40) (b4 : ∀ i, i < n → (kd i).canLay0 = true) :
    EN K (tSortKR K pi ta tk) δ ((sortO n kd).map fun i => PyData.int (i : Nat)) := fun B0 H0 B H σ Q S q =>
  hx B0 H0 B H σ _ S fun v B1 H1 s1 dv => by
    cases Dq.int_inv dv
    have el : (rgV 0 (n : Int)).length = n := by rw [rgV_length]; omega
    refine ⟨n, rfl, s1.bh.tb, RgOk.of_le (by omega) (by omega) (by omega) (by omega), fun H2 sam tb => ?_⟩
    have st := Stp.tabs s1.bh sam tb
    have sq := (S.step s1).step st
    have at_ : ∀ i, i < n → (rgV 0 (n : Int))[i]? = some (.int (i : Nat)) := fun i hi => by
      unfold rgV
      rw [List.getElem?_map, List.getElem?_range (by omega)]
      show some (V.int (0 + (i : Int))) = _
      rw [Int.zero_add]
    refine ⟨kd, fun H' => ∃ B', Stp B1 H2 B' H', fun H' ⟨B', s⟩ => s.hh, ⟨B1, .refl st.bh⟩, ⟨fun i v H' hi ⟨B', s⟩ => ?_⟩, by rw [el]; exact b1, by rw [el]; exact b2, fun i hi => b3 i (by rw [← el]; exact hi), fun i hi => b4 i (by rw [← el]; exact hi), fun p H' ⟨B', s⟩ np n2 => ?_⟩
    · have hi2 : i < n := by
        have := (List.getElem?_eq_some_iff.mp hi).1
        omega
      rw [at_ i hi2] at hi
      cases hi
      refine hk i hi2 B0 H0 B' H' _ _ ((sq.step s).setVal (.int _)) fun r B'' H'' s2 dr => ?_
      exact ⟨Dq.up s2.bh _ _ dr, ⟨B'', s.trans s2⟩, s2.hh⟩
    · have fin := (s1.trans st).trans s
      rw [el]
      refine q p _ B' _ (fin.trans (.newOwn s.bh np)) (fin.hh.free np) (s.bh.free np) upd_same ?_
      have : ∀ l : List Nat, (∀ i ∈ l, i < n) → DqAll K B' (l.map fun i => (rgV 0 (n : Int)).getD i .non) (l.map fun i => PyData.int (i : Nat)) := fun l => by
        induction l with
        | nil => exact fun _ => .nil
        | cons i l ih =>
          intro h
          refine .cons ?_ (ih fun j m => h j (List.mem_cons_of_mem _ m))
          show Dq K B' ((rgV 0 (n : Int)).getD i .non) (.int (i : Nat))
          rw [List.getD_eq_getElem?_getD, at_ i (h i (List.mem_cons_self ..))]
          exact .int _
      refine this _ fun i hi => ?_
      unfold sortO at hi
      exact List.mem_range.mp (List.mem_mergeSort.mp hi)
end
end DX

namespace DX
open PySem L2 LamK
section
theorem kx_sortedT {X : Cx} {K : PySem.W.Frag} {P : Program} {w : World} (hK : X.K = K := by rfl) (hP : X.prog = P := by rfl) (hw : X.w = w := by rfl) (hc : X.calm = true := by rfl) : CallR X (.builtin "sorted") (rSortedT K P w) := by
  subst hK; subst hP; subst hw; exact cr_sortedT hc
end
variable [TabEnv]
section
variable {P : Program} {w : World} {K : PySem.W.Frag} {δ : List SV} {te : TE}
theorem dq_refs {B : Hp} : ∀ {L : List (Addr × List Int)}, (∀ p ∈ L, SqT K B p.1 (p.2.map V.int)) → DqAll K B (L.map fun q => V.ref q.1) ((L.map (·.2)).map tupI)
  | [], _ => .nil
  | q :: L, h => .cons (.tup (h q (List.mem_cons_self ..)) DqAll.ofInts) (dq_refs fun p m => h p (List.mem_cons_of_mem _ m))
/-- sorted(set(tuples of two ints)) -/
theorem ep_sortedT {yss : List (List Int)} (h : ED K te δ (.list (yss.map tupI))) (hl : yss.length < 64) (hb : ∀ ys ∈ yss, ys.length = 2 ∧ TS.Bd 64 ys) :
    EP K (tCB (rSortedT K P w) (tCons (tCB (rSetOfT K P w) (tCons te tNil)) tNil)) δ (fun d => ∃ zss : List (List Int), d = .list (zss.map tupI) ∧ zss.Nodup ∧ (∀ z, z ∈ zss ↔ z ∈ yss) ∧ zss.Pairwise fun a b => TS.code 64 a ≤ TS.code 64 b) := fun B0 H0 B H σ Q S q =>
  h B0 H0 B H σ _ S fun v B1 H1 s1 a => by
    cases a with
    | @lst p vs _ hs hA =>
      obtain ⟨ks, rfl, e2, e3⟩ := tups_of hA
      refine ⟨p, ks, rfl, s1.bh.seq hs, fun p mp => sqT_up s1.bh (e3 p mp), by rw [← e2, List.length_map] at hl; exact hl, fun z L hz h1 h2 => ?_⟩
      have s2 : Stp B1 H1 B1 (upd H1 z (SetTO P w z L)) := .newOwn s1.bh hz
      have inL : ∀ p ∈ L, p.2 ∈ yss := fun p mp => by
        rw [← e2]
        exact List.mem_map.mpr ⟨p, h1 p mp, rfl⟩
      refine ⟨z, L, 2, 64, rfl, upd_same, fun p mp => sqT_up s2.hh (sqT_up s1.bh (e3 p (h1 p mp))), by decide, fun p mp => hb _ (inL p mp), fun L' p pm nd hf pw np => ?_⟩
      have s3 : Stp B1 (upd H1 z (SetTO P w z L)) (upd B1 p (.lst (L'.map fun q => V.ref q.1))) _ := .new s2.bh np
      refine q _ _ _ _ ((s1.trans s2).trans s3) (.lst (.inl (.inl upd_same)) (dq_refs fun q mq => sqT_up s3.bb (e3 q (h1 q (pm.subset mq))))) ⟨L'.map (·.2), rfl, nd, fun y => ⟨fun m => ?_, fun m => ?_⟩, List.pairwise_map.mpr pw⟩
      · obtain ⟨r, mr, rfl⟩ := List.mem_map.mp m
        exact inL r (pm.subset mr)
      · rw [← e2] at m
        obtain ⟨r, mr, rfl⟩ := List.mem_map.mp m
        obtain ⟨r', mr', e⟩ := List.mem_map.mp (h2 r mr)
        exact List.mem_map.mpr ⟨r', pm.symm.subset mr', e⟩
end
end DX

namespace DX
open PySem L2 LamK PySem.Spec PyProof.Rows
/-- a dict of the module's top with text keys: what it says -/
structure KDic (K : PySem.W.Frag) (w : World) (a : Addr) (l : List (Str × Int)) : Prop where
  ex : ∃ es n, KDict K w a es n
  get : ∀ kv ∈ l, ∃ t, PySem.W.nsIn K a kv.1 = some (some (.int kv.2 t))
def tKGet1 (K : PySem.W.Frag) (w : World) (td ty : TE) : TE := fun σ H Q => td σ H fun x H1 => ∃ a l, x = .ref a ∧ KDic K w a l ∧ ty σ H1 fun y H2 => ∃ kv, kv ∈ l ∧ y = .str kv.1 ∧ Q (.int kv.2) H2
section
variable {X : Cx} {K : PySem.W.Frag} {w : World} {o e : Expr} {apos cpos : Pos} {td ty : TE}
theorem pe_kget1 (ho : PE X o td) (he : PE X e ty) (m : M1 X o "get" apos e cpos) (hK : X.K = K := by rfl) (hw : X.w = w := by rfl) : PE X (.Call (.Attribute o "get" apos) [e] [] cpos) (tKGet1 K w td ty) := by
  subst hK; subst hw
  refine ⟨fun pins s σ H Q I h => ?_⟩
  refine wpAny_Call_method m.base m.few m.line PySem.F.plainAttrs_dict PySem.F.slot_dict_get PySem.F.type_dict_get (thn (ho.run pins s σ H _ I h) fun u s1 ⟨x, H1, I1, rx, a, l, ex, kd, q1⟩ => ?_)
  subst ex
  obtain rfl : u = Value.ref a := rx
  obtain ⟨es, n, D⟩ := kd.ex
  have hm := PySem.W.mapOf_K (prog := X.prog) (w := X.w) I1.kIn D.at_ D.lit
  refine ⟨hm.typeIs, fun b q => by cases q; exact ⟨_, I1.kIn _ _ D.at_, rfl⟩, ?_⟩
  rw [m.trees]
  refine Calls.callWith_builtin rfl (Calls.evalArgs_plain (Calls.spliced_cons (thn (he.run pins s1 σ H1 _ I1 q1) fun iv s2 ⟨y, H2, I2, ry, kv, mk, ey, q2⟩ => Calls.spliced_nil ?_)))
  subst ey
  obtain ⟨t, rfl⟩ := ry
  obtain ⟨t', e'⟩ := kd.get kv mk
  have hm2 := PySem.W.mapOf_K (prog := X.prog) (w := X.w) I2.kIn D.at_ D.lit
  refine call_meetsIn PySem.F.slot_dict_get hm2.typeIs PySem.F.entry_dict_get (PySem.F.args_dict_get_2 _ _) (meets_dict_get (strKind X.prog X.w) a (strKind_is X.prog X.w kv.1 t) D.low) ⟨_, hm2, ?_⟩
  show wants _ _ (.ok (.ret ((findBy Value.isStrOf es kv.1).getD .none))) _
  rw [PySem.W.find_K D.at_ e']
  exact ⟨.int kv.2, H2, I2.tok _, ⟨t', rfl⟩, q2⟩
end
variable [TabEnv]
section
variable {K : PySem.W.Frag} {w : World} {δ : List SV} {ty : TE}
theorem ed_kget1 {a : Addr} {l : List (Str × Int)} {z : Str} {i : Int} (kd : KDic K w a l) (m : (z, i) ∈ l) (h : ED K ty δ (.str z)) : ED K (tKGet1 K w (tC (.ref a)) ty) δ (.int i) := fun B0 H0 B H σ Q S q =>
  ⟨a, l, rfl, kd, h B0 H0 B H σ _ S fun v B1 H1 s1 dv => by
    cases dv
    exact ⟨(z, i), m, rfl, q _ B1 H1 s1 (.int i)⟩⟩
end
end DX
namespace DX
open PySem L2 LamK
local macro_rules | `(tactic| walk_at "ev1") => `(tactic| with_reducible first
  | exact ed_int | exact ed_bl | exact ed_non | exact ed_str
  | refine' ed_var ?_
  | refine' ed_rI0 ?_ ?_ ?_
  | refine' ed_rI ?_ ?_ ?_ ?_
  | refine' ed_rU ?_ ?_
  | refine' ed_ix ?_ ?_ ?_
  | refine' ed_tup ?_ ?_
  | exact ea_nil | refine' ea_cons ?_ ?_
  | refine' ed_len ?_ ?_ | refine' ed_abs ?_ | refine' ed_max2 ?_ ?_ | refine' ed_min2 ?_ ?_ | refine' ed_int1 ?_ ?_
  | refine' ed_gcd ?_ ?_ | refine' ed_lcm ?_ ?_ ?_ ?_
  | refine' ed_call ?_ ?_
  | refine' ed_isi ?_ ?_
  | refine' ed_isB ?_ ?_ | refine' ed_notB ?_ ?_
  | refine' ed_eqD ?_ ?_ ?_ ?_ ?_ | refine' ed_neD ?_ ?_ ?_ ?_ ?_
  | refine' et_test ?_ | refine' et_B ?_
  | refine' et_and ?_ (fun _ => ?_) | refine' et_or ?_ (fun _ => ?_) | refine' et_not ?_
  | refine' ed_andV ?_ (fun _ => ?_) | refine' ed_orV ?_ (fun _ => ?_) | refine' ed_notV ?_
  | refine' EN.ed (en_lst ?_ ?_) | refine' EN.ed (en_rep ?_ ?_ ?_ ?_) | refine' EN.ed (en_cat ?_ ?_ ?_)
  | refine' en_lst ?_ ?_ | refine' en_rep ?_ ?_ ?_ ?_ | refine' en_cat ?_ ?_ ?_ | refine' en_list ?_ ?_ | refine' EN.ed (en_list ?_ ?_)
  | refine' ei_seq ?_ ?_ | refine' ei_rngN ?_ ?_ ?_ | refine' ei_zipL ?_ ?_ | refine' ei_zipT ?_ ?_ | refine' ei_enumA ?_ ?_
  | refine' ed_in ?_ ?_ ?_ | refine' ed_notin ?_ ?_ ?_ | refine' ed_catT ?_ ?_ ?_ ?_ | refine' en_catA ?_ ?_ ?_ | refine' ed_sliceT ?_ ?_ ?_ | refine' en_sliceB ?_ ?_ ?_ | refine' eo_some ?_ | exact eo_none
  | refine' ed_isN ?_ | refine' ed_notN ?_ | refine' et_truth ?_ ?_ | refine' ed_lenD ?_
  | exact Sc.int _ | exact Sc.bl _ | exact Shp.shaped shp_num | exact Shp.shaped (n := 0) shp_int | exact Shp.shaped (n := 1) shp_ints)
local macro_rules | `(tactic| walk_at "ev2") => `(tactic| first | walk_at "ev1" | rfl | exact Sc.int _ | exact Sc.bl _ | exact sz_small (by simp; done) | exact powX (by decide))
local macro_rules | `(tactic| walk_at "ev") => `(tactic| repeat' (walk_at "ev2"))
local macro_rules | `(tactic| walk_at "sh") => `(tactic| first | exact Shp.shaped (n := 0) shp_int | exact Shp.shaped (n := 1) shp_ints | exact Shp.shaped (n := 1) shp_num)

def topS (i : Nat) : Stmt := PySem.Challenge.pw_loadorloose_k18_uses.main.body.getD i (.Pass ⟨0, 0, 0, 0⟩)
abbrev s_number : Stmt := topS 2
abbrev N_number : List Str := ["n", "d", "divisor"]
theorem sc_number : FnScope N_number ["n", "d"] (defScope s_number) := ⟨rfl, rfl, rfl, by decide +kernel, rfl, by decide +kernel, by decide +kernel⟩
abbrev s_plus : Stmt := topS 3
abbrev N_plus : List Str := ["a", "b"]
theorem sc_plus : FnScope N_plus ["a", "b"] (defScope s_plus) := ⟨rfl, rfl, rfl, by decide +kernel, rfl, by decide +kernel, by decide +kernel⟩
abbrev s_minus : Stmt := topS 4
abbrev N_minus : List Str := ["a", "b"]
theorem sc_minus : FnScope N_minus ["a", "b"] (defScope s_minus) := ⟨rfl, rfl, rfl, by decide +kernel, rfl, by decide +kernel, by decide +kernel⟩
abbrev s_times : Stmt := topS 5
abbrev N_times : List Str := ["a", "b"]
theorem sc_times : FnScope N_times ["a", "b"] (defScope s_times) := ⟨rfl, rfl, rfl, by decide +kernel, rfl, by decide +kernel, by decide +kernel⟩
abbrev s_dotted : Stmt := topS 6
abbrev N_dotted : List Str := ["vector", "pair"]
theorem sc_dotted : FnScope N_dotted ["vector", "pair"] (defScope s_dotted) := ⟨rfl, rfl, rfl, by decide +kernel, rfl, by decide +kernel, by decide +kernel⟩
abbrev s_growth : Stmt := topS 8
abbrev N_growth : List Str := ["frame", "k", "motion", "points", "members", "_", "i", "j", "x", "y", "v", "w"]
theorem sc_growth : FnScope N_growth ["frame", "k", "motion"] (defScope s_growth) := ⟨rfl, rfl, rfl, by decide +kernel, rfl, by decide +kernel, by decide +kernel⟩
abbrev s_is_of_numbers : Stmt := topS 9
abbrev N_is_of_numbers : List Str := ["motion"]
theorem sc_is_of_numbers : FnScope N_is_of_numbers ["motion"] (defScope s_is_of_numbers) := ⟨rfl, rfl, rfl, by decide +kernel, rfl, by decide +kernel, by decide +kernel⟩
abbrev s_use : Stmt := topS 11
abbrev N_use : List Str := ["frame", "k", "motion", "_", "pull", "push", "grown"]
theorem sc_use : FnScope N_use ["frame", "k", "motion"] (defScope s_use) := ⟨rfl, rfl, rfl, by decide +kernel, rfl, by decide +kernel, by decide +kernel⟩
abbrev s_used : Stmt := topS 12
abbrev N_used : List Str := ["grown", "pull", "push"]
theorem sc_used : FnScope N_used ["grown", "pull", "push"] (defScope s_used) := ⟨rfl, rfl, rfl, by decide +kernel, rfl, by decide +kernel, by decide +kernel⟩
abbrev s_u_law_cell : Stmt := topS 14
abbrev N_u_law_cell : List Str := ["script", "k"]
theorem sc_u_law_cell : FnScope N_u_law_cell ["script", "k"] (defScope s_u_law_cell) := ⟨rfl, rfl, rfl, by decide +kernel, rfl, by decide +kernel, by decide +kernel⟩
abbrev s_u_law_parts : Stmt := topS 15
abbrev N_u_law_parts : List Str := ["cell", "sizes", "parts", "left", "k", "mixed"]
theorem sc_u_law_parts : FnScope N_u_law_parts ["cell", "sizes"] (defScope s_u_law_parts) := ⟨rfl, rfl, rfl, by decide +kernel, rfl, by decide +kernel, by decide +kernel⟩
abbrev s_u_law_is_integer : Stmt := topS 16
abbrev N_u_law_is_integer : List Str := ["actual"]
theorem sc_u_law_is_integer : FnScope N_u_law_is_integer ["actual"] (defScope s_u_law_is_integer) := ⟨rfl, rfl, rfl, by decide +kernel, rfl, by decide +kernel, by decide +kernel⟩
abbrev s_u_law_divisor : Stmt := topS 17
abbrev N_u_law_divisor : List Str := ["a", "b", "k"]
theorem sc_u_law_divisor : FnScope N_u_law_divisor ["a", "b"] (defScope s_u_law_divisor) := ⟨rfl, rfl, rfl, by decide +kernel, rfl, by decide +kernel, by decide +kernel⟩
abbrev s_u_law_number : Stmt := topS 18
abbrev N_u_law_number : List Str := ["n", "d", "divisor"]
theorem sc_u_law_number : FnScope N_u_law_number ["n", "d"] (defScope s_u_law_number) := ⟨rfl, rfl, rfl, by decide +kernel, rfl, by decide +kernel, by decide +kernel⟩
abbrev s_u_law_plus : Stmt := topS 19
abbrev N_u_law_plus : List Str := ["a", "b"]
theorem sc_u_law_plus : FnScope N_u_law_plus ["a", "b"] (defScope s_u_law_plus) := ⟨rfl, rfl, rfl, by decide +kernel, rfl, by decide +kernel, by decide +kernel⟩
abbrev s_u_law_times : Stmt := topS 20
abbrev N_u_law_times : List Str := ["a", "b"]
theorem sc_u_law_times : FnScope N_u_law_times ["a", "b"] (defScope s_u_law_times) := ⟨rfl, rfl, rfl, by decide +kernel, rfl, by decide +kernel, by decide +kernel⟩
abbrev s_u_law_is_number : Stmt := topS 23
abbrev N_u_law_is_number : List Str := ["actual"]
theorem sc_u_law_is_number : FnScope N_u_law_is_number ["actual"] (defScope s_u_law_is_number) := ⟨rfl, rfl, rfl, by decide +kernel, rfl, by decide +kernel, by decide +kernel⟩
abbrev s_u_law_points : Stmt := topS 25
abbrev N_u_law_points : List Str := ["script", "n", "size", "points", "k", "parts"]
theorem sc_u_law_points : FnScope N_u_law_points ["script", "n", "size"] (defScope s_u_law_points) := ⟨rfl, rfl, rfl, by decide +kernel, rfl, by decide +kernel, by decide +kernel⟩
abbrev s_u_law_limits : Stmt := topS 26
abbrev N_u_law_limits : List Str := ["digit", "style", "limit", "other", "choice"]
theorem sc_u_law_limits : FnScope N_u_law_limits ["digit", "style"] (defScope s_u_law_limits) := ⟨rfl, rfl, rfl, by decide +kernel, rfl, by decide +kernel, by decide +kernel⟩
abbrev s_u_law_members : Stmt := topS 27
abbrev N_u_law_members : List Str := ["script", "points", "style", "n", "draws", "digits", "members", "at", "i", "j"]
theorem sc_u_law_members : FnScope N_u_law_members ["script", "points", "style"] (defScope s_u_law_members) := ⟨rfl, rfl, rfl, by decide +kernel, rfl, by decide +kernel, by decide +kernel⟩
abbrev s_u_law_frame : Stmt := topS 28
abbrev N_u_law_frame : List Str := ["script", "least", "style", "pinned", "parts", "n", "points", "pins"]
theorem sc_u_law_frame : FnScope N_u_law_frame ["script", "least", "style", "pinned"] (defScope s_u_law_frame) := ⟨rfl, rfl, rfl, by decide +kernel, rfl, by decide +kernel, by decide +kernel⟩
abbrev s_u_law_use : Stmt := topS 36
abbrev N_u_law_use : List Str := ["frame", "k", "motion", "i", "j", "pull", "push", "grown", "which", "apart"]
theorem sc_u_law_use : FnScope N_u_law_use ["frame", "k", "motion"] (defScope s_u_law_use) := ⟨rfl, rfl, rfl, by decide +kernel, rfl, by decide +kernel, by decide +kernel⟩
abbrev s_u_law_numbered : Stmt := topS 37
abbrev N_u_law_numbered : List Str := ["motion", "v"]
theorem sc_u_law_numbered : FnScope N_u_law_numbered ["motion"] (defScope s_u_law_numbered) := ⟨rfl, rfl, rfl, by decide +kernel, rfl, by decide +kernel, by decide +kernel⟩
abbrev s_law : Stmt := topS 43
abbrev N_law : List Str := ["script", "frame", "n", "digits", "motion", "other", "k", "due", "told"]
theorem sc_law : FnScope N_law ["script"] (defScope s_law) := ⟨rfl, rfl, rfl, by decide +kernel, rfl, by decide +kernel, by decide +kernel⟩
structure Txt (K : PySem.W.Frag) (mg : Str → Option Value) where
  f_number : Addr
  fd_number : FuncData
  F_number : Fun K "number" "number" s_number f_number fd_number
  g_number : mg "number" = some (.ref f_number)
  b_number : Binds K fd_number ["n", "d"] []
  f_plus : Addr
  fd_plus : FuncData
  F_plus : Fun K "plus" "plus" s_plus f_plus fd_plus
  g_plus : mg "plus" = some (.ref f_plus)
  b_plus : Binds K fd_plus ["a", "b"] []
  f_minus : Addr
  fd_minus : FuncData
  F_minus : Fun K "minus" "minus" s_minus f_minus fd_minus
  g_minus : mg "minus" = some (.ref f_minus)
  b_minus : Binds K fd_minus ["a", "b"] []
  f_times : Addr
  fd_times : FuncData
  F_times : Fun K "times" "times" s_times f_times fd_times
  g_times : mg "times" = some (.ref f_times)
  b_times : Binds K fd_times ["a", "b"] []
  f_dotted : Addr
  fd_dotted : FuncData
  F_dotted : Fun K "dotted" "dotted" s_dotted f_dotted fd_dotted
  g_dotted : mg "dotted" = some (.ref f_dotted)
  b_dotted : Binds K fd_dotted ["vector", "pair"] []
  f_growth : Addr
  fd_growth : FuncData
  F_growth : Fun K "growth" "growth" s_growth f_growth fd_growth
  g_growth : mg "growth" = some (.ref f_growth)
  b_growth : Binds K fd_growth ["frame", "k", "motion"] []
  f_is_of_numbers : Addr
  fd_is_of_numbers : FuncData
  F_is_of_numbers : Fun K "is_of_numbers" "is_of_numbers" s_is_of_numbers f_is_of_numbers fd_is_of_numbers
  g_is_of_numbers : mg "is_of_numbers" = some (.ref f_is_of_numbers)
  b_is_of_numbers : Binds K fd_is_of_numbers ["motion"] []
  f_use : Addr
  fd_use : FuncData
  F_use : Fun K "use" "use" s_use f_use fd_use
  g_use : mg "use" = some (.ref f_use)
  b_use : Binds K fd_use ["frame", "k", "motion"] []
  f_used : Addr
  fd_used : FuncData
  F_used : Fun K "used" "used" s_used f_used fd_used
  g_used : mg "used" = some (.ref f_used)
  b_used : Binds K fd_used ["grown", "pull", "push"] []
  f_u_law_cell : Addr
  fd_u_law_cell : FuncData
  F_u_law_cell : Fun K "_law_cell" "_law_cell" s_u_law_cell f_u_law_cell fd_u_law_cell
  g_u_law_cell : mg "_law_cell" = some (.ref f_u_law_cell)
  b_u_law_cell : Binds K fd_u_law_cell ["script", "k"] []
  f_u_law_parts : Addr
  fd_u_law_parts : FuncData
  F_u_law_parts : Fun K "_law_parts" "_law_parts" s_u_law_parts f_u_law_parts fd_u_law_parts
  g_u_law_parts : mg "_law_parts" = some (.ref f_u_law_parts)
  b_u_law_parts : Binds K fd_u_law_parts ["cell", "sizes"] []
  f_u_law_is_integer : Addr
  fd_u_law_is_integer : FuncData
  F_u_law_is_integer : Fun K "_law_is_integer" "_law_is_integer" s_u_law_is_integer f_u_law_is_integer fd_u_law_is_integer
  g_u_law_is_integer : mg "_law_is_integer" = some (.ref f_u_law_is_integer)
  b_u_law_is_integer : Binds K fd_u_law_is_integer ["actual"] []
  f_u_law_divisor : Addr
  fd_u_law_divisor : FuncData
  F_u_law_divisor : Fun K "_law_divisor" "_law_divisor" s_u_law_divisor f_u_law_divisor fd_u_law_divisor
  g_u_law_divisor : mg "_law_divisor" = some (.ref f_u_law_divisor)
  b_u_law_divisor : Binds K fd_u_law_divisor ["a", "b"] []
  f_u_law_number : Addr
  fd_u_law_number : FuncData
  F_u_law_number : Fun K "_law_number" "_law_number" s_u_law_number f_u_law_number fd_u_law_number
  g_u_law_number : mg "_law_number" = some (.ref f_u_law_number)
  b_u_law_number : Binds K fd_u_law_number ["n", "d"] []
  f_u_law_plus : Addr
  fd_u_law_plus : FuncData
  F_u_law_plus : Fun K "_law_plus" "_law_plus" s_u_law_plus f_u_law_plus fd_u_law_plus
  g_u_law_plus : mg "_law_plus" = some (.ref f_u_law_plus)
  b_u_law_plus : Binds K fd_u_law_plus ["a", "b"] []
  f_u_law_times : Addr
  fd_u_law_times : FuncData
  F_u_law_times : Fun K "_law_times" "_law_times" s_u_law_times f_u_law_times fd_u_law_times
  g_u_law_times : mg "_law_times" = some (.ref f_u_law_times)
  b_u_law_times : Binds K fd_u_law_times ["a", "b"] []
  f_u_law_is_number : Addr
  fd_u_law_is_number : FuncData
  F_u_law_is_number : Fun K "_law_is_number" "_law_is_number" s_u_law_is_number f_u_law_is_number fd_u_law_is_number
  g_u_law_is_number : mg "_law_is_number" = some (.ref f_u_law_is_number)
  b_u_law_is_number : Binds K fd_u_law_is_number ["actual"] []
  f_u_law_points : Addr
  fd_u_law_points : FuncData
  F_u_law_points : Fun K "_law_points" "_law_points" s_u_law_points f_u_law_points fd_u_law_points
  g_u_law_points : mg "_law_points" = some (.ref f_u_law_points)
  b_u_law_points : Binds K fd_u_law_points ["script", "n", "size"] []
  f_u_law_limits : Addr
  fd_u_law_limits : FuncData
  F_u_law_limits : Fun K "_law_limits" "_law_limits" s_u_law_limits f_u_law_limits fd_u_law_limits
  g_u_law_limits : mg "_law_limits" = some (.ref f_u_law_limits)
  b_u_law_limits : Binds K fd_u_law_limits ["digit", "style"] []
  f_u_law_members : Addr
  fd_u_law_members : FuncData
  F_u_law_members : Fun K "_law_members" "_law_members" s_u_law_members f_u_law_members fd_u_law_members
  g_u_law_members : mg "_law_members" = some (.ref f_u_law_members)
  b_u_law_members : Binds K fd_u_law_members ["script", "points", "style"] []
  f_u_law_frame : Addr
  fd_u_law_frame : FuncData
  F_u_law_frame : Fun K "_law_frame" "_law_frame" s_u_law_frame f_u_law_frame fd_u_law_frame
  g_u_law_frame : mg "_law_frame" = some (.ref f_u_law_frame)
  b_u_law_frame : Binds K fd_u_law_frame ["script", "least", "style", "pinned"] []
  f_u_law_use : Addr
  fd_u_law_use : FuncData
  F_u_law_use : Fun K "_law_use" "_law_use" s_u_law_use f_u_law_use fd_u_law_use
  g_u_law_use : mg "_law_use" = some (.ref f_u_law_use)
  b_u_law_use : Binds K fd_u_law_use ["frame", "k", "motion"] []
  f_u_law_numbered : Addr
  fd_u_law_numbered : FuncData
  F_u_law_numbered : Fun K "_law_numbered" "_law_numbered" s_u_law_numbered f_u_law_numbered fd_u_law_numbered
  g_u_law_numbered : mg "_law_numbered" = some (.ref f_u_law_numbered)
  b_u_law_numbered : Binds K fd_u_law_numbered ["motion"] []
  f_law : Addr
  fd_law : FuncData
  F_law : Fun K "law" "law" s_law f_law fd_law
  g_law : mg "law" = some (.ref f_law)
  z_abs : mg "abs" = none
  z_bool : mg "bool" = none
  z_int : mg "int" = none
  z_isinstance : mg "isinstance" = none
  z_len : mg "len" = none
  z_range : mg "range" = none
  z_set : mg "set" = none
  z_sorted : mg "sorted" = none
  z_tuple : mg "tuple" = none
  i_gcd : mg "gcd" = some (.builtin "math.gcd")
section
variable {P : Program} {w : World} {K : PySem.W.Frag} {mg : Str → Option Value} {base : Heap}
variable [TabEnv]
theorem atI_map {α : Type} {xs : List α} {g : α → D} {k : Nat} {x : α} (h : xs[k]? = some x) : atI (xs.map g) (k : Int) = some (g x) := atI_nat (by rw [List.getElem?_map, h]; rfl)

def Sm (k : Nat) (a : Int × Int) : Prop := Lt k a.1 ∧ Lt k a.2 ∧ a.2 ≠ 0
/-! ### the law's own helpers -/
def R_cell (ds : List D) (d : D) : Prop := ∃ (ns : List Int) (k : Nat), ds = [.list (ns.map PyData.int), .int k] ∧ d = .int (ns.getD k 0)
theorem ok_u_law_cell (T : Txt K mg) : FnOk P w K mg base CX0 1 T.f_u_law_cell T.fd_u_law_cell ["script", "k"] (spD K R_cell) := by
  refine ok_wp T.F_u_law_cell sc_u_law_cell ?_ (fun cdv hcv A outer s H E hr => ⟨_, (pss_cons (ps_if (pt_cmpR op_lt (pv 1) (pe_callB (kx_len (K := K)) (by rfl) T.z_len (by decide +kernel) (pa_cons (pv 0) pa_nil)) (nomark _)) (pss_one (ps_ret (pe_ix (kx_ix (K := K)) (pv 0) (pv 1) (fun _ _ => rfl)))) pss_nil)
      (pss_one (ps_ret pe_int))), ?_⟩)
  all_goals (try simp only [nox_K, blk_K, cx_K])
  · rintro ds d ⟨ns, k, rfl, _⟩; rfl
  · rintro ds d ⟨ns, k, rfl, rfl⟩
    refine wp_seq (wp_if (by walk_at "ev") (fun h => ?_) (fun h => ?_))
    · have h : (k : Int) < ((ns.map PyData.int).length : Nat) := of_decide_eq_true h
      rw [List.length_map] at h
      have hk : k < ns.length := by omega
      refine wp_ret (d := .int ns[k]) (by walk_at "ev"; exact atI_map (List.getElem?_eq_getElem hk)) ?_
      show PyData.int _ = .int _
      rw [List.getD_eq_getElem?_getD, List.getElem?_eq_getElem hk]
      rfl
    · have h : ¬ (k : Int) < ((ns.map PyData.int).length : Nat) := of_decide_eq_false h
      rw [List.length_map] at h
      refine wp_next (wp_ret (by walk_at "ev") ?_)
      show PyData.int _ = .int _
      rw [List.getD_eq_getElem?_getD, List.getElem?_eq_none (by omega)]
      rfl
def mixM (cell : Int) (k : Nat) : Int :=
  let m1 := (cell * 48271 + (k : Int) * 69621 + 11) % 2147483647
  ((m1 * m1 + 16807 * (k : Int) + 5) % 998244353).fdiv 7
def partsM (cell : Int) : List Int → Nat → Int → List Int
  | [], _, _ => []
  | s :: ss, k, left => (if left ≥ 0 then left % s else mixM cell k % s) :: partsM cell ss (k + 1) (if left ≥ 0 then left.fdiv s else left)
def partsOf (cell : Int) (sizes : List Int) : List Int := partsM cell sizes 0 (cell - 10 ^ 18)
def R_parts (ds : List D) (d : D) : Prop := ∃ (cell : Int) (sizes : List Int), ds = [.int cell, .list (sizes.map PyData.int)] ∧ (∀ s ∈ sizes, 0 < s ∧ Lt 8000 s) ∧ sizes.length ≤ 1000 ∧ d = .list ((partsOf cell sizes).map PyData.int)
theorem ok_u_law_parts (T : Txt K mg) : FnOk P w K mg base CX0 1 T.f_u_law_parts T.fd_u_law_parts ["cell", "sizes"] (spD K R_parts) := by
  refine ok_wp T.F_u_law_parts sc_u_law_parts ?_ (fun cdv hcv A outer s H E hr => ⟨_, (pss_cons (ps_set (i := 2) sc_u_law_parts.nd rfl (by first | exact Or.inl rfl | exact Or.inr rfl) (pe_lst pa_nil))
      (pss_cons (ps_set (i := 3) sc_u_law_parts.nd rfl (by first | exact Or.inl rfl | exact Or.inr rfl) (pe_op op_sub (pv 0) (pe_op op_pow pe_int pe_int)))
      (pss_cons (ps_for PassesOwn.never rfl (pi_range1 (by rfl) T.z_range (pa_cons (pe_callB (kx_len (K := K)) (by rfl) T.z_len (by decide +kernel) (pa_cons (pv 1) pa_nil)) pa_nil)) (pg_name (i := 4) sc_u_law_parts.nd rfl (by first | exact Or.inl rfl | exact Or.inr rfl))
      (pss_one (ps_if (pt_cmpR op_ge (pv 3) pe_int (nomark _)) (pss_cons (ps_expr (pe_bm PySem.F.plainAttrs_list PySem.F.slot_list_append PySem.F.type_list_append mt_append (pv 2) (pa_cons (pe_op op_mod (pe_callTy cr_intQ (by rfl) T.z_int (by decide +kernel) (pa_cons (pv 3) pa_nil)) (pe_ix (kx_ix (K := K)) (pv 1) (pv 4) (fun _ _ => rfl))) pa_nil)))
      (pss_one (ps_set (i := 3) sc_u_law_parts.nd rfl (by first | exact Or.inl rfl | exact Or.inr rfl) (pe_op op_fdivX (pv 3) (pe_ix (kx_ix (K := K)) (pv 1) (pv 4) (fun _ _ => rfl)))))) (pss_cons (ps_set (i := 5) sc_u_law_parts.nd rfl (by first | exact Or.inl rfl | exact Or.inr rfl) (pe_op op_mod (pe_callTy cr_intQ (by rfl) T.z_int (by decide +kernel) (pa_cons (pe_op op_add (pe_op op_add (pe_op op_mulX (pv 0) pe_int) (pe_op op_mulX (pv 4) pe_int)) pe_int) pa_nil)) pe_int))
      (pss_cons (ps_set (i := 5) sc_u_law_parts.nd rfl (by first | exact Or.inl rfl | exact Or.inr rfl) (pe_op op_mod (pe_callTy cr_intQ (by rfl) T.z_int (by decide +kernel) (pa_cons (pe_op op_add (pe_op op_add (pe_op op_mulX (pv 5) (pv 5)) (pe_op op_mulX pe_int (pv 4))) pe_int) pa_nil)) pe_int))
      (pss_one (ps_expr (pe_bm PySem.F.plainAttrs_list PySem.F.slot_list_append PySem.F.type_list_append mt_append (pv 2) (pa_cons (pe_op op_mod (pe_callTy cr_intQ (by rfl) T.z_int (by decide +kernel) (pa_cons (pe_op op_fdivX (pv 5) pe_int) pa_nil)) (pe_ix (kx_ix (K := K)) (pv 1) (pv 4) (fun _ _ => rfl))) pa_nil)))))))))
      (pss_one (ps_ret (pv 2)))))), ?_⟩)
  all_goals (try simp only [nox_K, blk_K, cx_K])
  · rintro ds d ⟨cell, sizes, rfl, _⟩; rfl
  · rintro ds d ⟨cell, sizes, rfl, hs, hl, rfl⟩
    refine wp_seq (wp_asgN (by walk_at "ev") ?_)
    refine wp_seq (wp_asg (ED.of (d' := .int (cell - 10 ^ 18)) (by walk_at "ev") rfl) ?_)
    refine wp_seq (wp_forG (xs := List.range sizes.length) (g := fun k => PyData.int (k : Nat))
      (fun k δ => ∃ (ps : List Int) (left : Int) (z w : SV), δ = [.val (.int cell), .val (.list (sizes.map PyData.int)), .own (.l (ps.map PyData.int)), .val (.int left), z, w] ∧ k ≤ sizes.length ∧ ps.length = k ∧ ps ++ partsM cell (sizes.drop k) k left = partsOf cell sizes)
      (by repeat' first | walk_at "ev2" | (show (_ : Int) = _; rw [List.length_map]; done) | (show (_ : Nat) ≤ _; omega) | fail) ⟨[], _, _, _, rfl, Nat.zero_le _, rfl, by rw [List.drop_zero]; rfl⟩ ?_ ?_)
    · rintro k x δ ex ⟨ps, left, z, w, rfl, hk, hp, inv⟩
      have hk2 : k < sizes.length := by
        have := (List.getElem?_eq_some_iff.mp ex).1
        rwa [List.length_range] at this
      have hx : x = k := by
        rw [List.getElem?_range hk2] at ex
        exact (Option.some.inj ex).symm
      subst hx
      obtain ⟨s0, s1⟩ := hs sizes[x] (List.getElem_mem hk2)
      have at1 : atI (sizes.map PyData.int) (x : Int) = some (.int sizes[x]) := atI_map (List.getElem?_eq_getElem hk2)
      rw [List.drop_eq_getElem_cons hk2] at inv
      refine wp_if (by walk_at "ev") (fun h => ?_) (fun h => ?_)
      · have h : left ≥ 0 := of_decide_eq_true h
        refine wp_seq (wp_app (d := .int (left % sizes[x])) rfl (by repeat' first | walk_at "ev2" | exact at1 | exact s0 | fail) (by rw [List.length_map]; exact small1000 (by omega)) ?_)
        refine wp_asg (by repeat' first | walk_at "ev2" | exact at1 | exact divX (by omega) s1 | fail) ?_
        refine ⟨ps ++ [left % sizes[x]], left.fdiv sizes[x], .val (.int x), w, ?_, hk2, by rw [List.length_append, hp]; rfl, ?_⟩
        · rw [List.map_append]; rfl
        · rw [← inv, partsM, if_pos h, if_pos h, List.append_assoc]; rfl
      · have h : ¬ left ≥ 0 := of_decide_eq_false h
        refine wp_seq (wp_asg (by repeat' first | walk_at "ev2" | (show (0 : Int) < _; decide) | exact mulR (by decide) | exact mulR (by omega) | fail) ?_)
        have m0 : 0 ≤ (cell * 48271 + (x : Int) * 69621 + 11) % 2147483647 := Int.emod_nonneg _ (by decide)
        have m1 : (cell * 48271 + (x : Int) * 69621 + 11) % 2147483647 < 2147483647 := Int.emod_lt_of_pos _ (by decide)
        refine wp_seq (wp_asg (by repeat' first | walk_at "ev2" | (show (0 : Int) < _; decide) | exact mulL (by decide) | exact mulL (by omega) | fail) ?_)
        refine wp_app (d := .int (mixM cell x % sizes[x])) rfl (by repeat' first | walk_at "ev2" | exact at1 | exact s0 | exact divX (k := 10) (by decide) (by unfold Lt; decide) | fail) (by rw [List.length_map]; exact small1000 (by omega)) ?_
        refine ⟨ps ++ [mixM cell x % sizes[x]], left, .val (.int x), .val (.int ((((cell * 48271 + (x : Int) * 69621 + 11) % 2147483647) * ((cell * 48271 + (x : Int) * 69621 + 11) % 2147483647) + 16807 * (x : Int) + 5) % 998244353)), ?_, hk2, by rw [List.length_append, hp]; rfl, ?_⟩
        · rw [List.map_append]; rfl
        · rw [← inv, partsM, if_neg h, if_neg h, List.append_assoc]; rfl
    · rintro δ ⟨ps, left, z, w, rfl, hk, hp, inv⟩
      rw [List.length_range] at hp inv
      rw [List.drop_length, partsM, List.append_nil] at inv
      refine wp_retOwn rfl ?_
      show _ = _
      rw [inv]
def R_isInt (ds : List D) (d : D) : Prop := ∃ i : Int, ds = [.int i] ∧ d = .bool true
theorem ok_u_law_is_integer (T : Txt K mg) : FnOk P w K mg base CX0 1 T.f_u_law_is_integer T.fd_u_law_is_integer ["actual"] (spD K R_isInt) := by
  refine ok_wp T.F_u_law_is_integer sc_u_law_is_integer ?_ (fun cdv hcv A outer s H E hr => ⟨_, (pss_one (ps_ret (pe_and (pe_callB (kx_isi (K := K)) (by rfl) T.z_isinstance (by decide +kernel) (pa_cons (pv 0) (pa_cons (pe_bltn (v := .ty "int") (by rfl) T.z_int (by decide +kernel) rfl) pa_nil))) (pe_one (pe_not (pe_callB (kx_isi (K := K)) (by rfl) T.z_isinstance (by decide +kernel) (pa_cons (pv 0) (pa_cons (pe_bltn (v := .ty "bool") (by rfl) T.z_bool (by decide +kernel) rfl) pa_nil)))))))), ?_⟩)
  all_goals (try simp only [nox_K, blk_K, cx_K])
  · rintro ds d ⟨i, rfl, _⟩; rfl
  · rintro ds d ⟨i, rfl, rfl⟩
    refine wp_ret (by walk_at "ev") ?_
    rfl

theorem partsM_len (cell : Int) : ∀ (ss : List Int) (k : Nat) (left : Int), (partsM cell ss k left).length = ss.length
  | [], _, _ => rfl
  | s :: ss, k, left => by rw [partsM, List.length_cons, List.length_cons, partsM_len cell ss]
theorem partsM_get (cell : Int) : ∀ (ss : List Int) (k : Nat) (left : Int) (i : Nat) (s : Int), ss[i]? = some s → 0 < s → 0 ≤ (partsM cell ss k left).getD i 0 ∧ (partsM cell ss k left).getD i 0 < s
  | [], _, _, i, s, h, _ => by cases h
  | t :: ss, k, left, 0, s, h, hs => by
    have h : t = s := Option.some.inj h
    subst h
    rw [partsM, List.getD_cons_zero]
    split
    · exact ⟨Int.emod_nonneg _ (by omega), Int.emod_lt_of_pos _ hs⟩
    · exact ⟨Int.emod_nonneg _ (by omega), Int.emod_lt_of_pos _ hs⟩
  | t :: ss, k, left, i + 1, s, h, hs => by
    rw [partsM, List.getD_cons_succ]
    exact partsM_get cell ss _ _ i s h hs
theorem parts_len (cell : Int) (ss : List Int) : (partsOf cell ss).length = ss.length := partsM_len _ _ _ _
theorem parts_get {cell : Int} {ss : List Int} (i : Nat) {s : Int} (h : ss[i]? = some s) (hs : 0 < s) : 0 ≤ (partsOf cell ss).getD i 0 ∧ (partsOf cell ss).getD i 0 < s := partsM_get _ _ _ _ i s h hs
theorem sizes_ok {ss : List Int} (h : ∀ s ∈ ss, 0 < s ∧ s < 2 ^ 200) : ∀ s ∈ ss, 0 < s ∧ Lt 8000 s := fun s hs => by
  obtain ⟨a, b⟩ := h s hs
  refine ⟨a, Lt.mono (a := 200) ?_⟩
  have : (2 : Int) ^ 200 = ((2 ^ 200 : Nat) : Int) := by decide
  unfold Lt
  omega

theorem getD_of {α : Type} {xs : List α} {k : Nat} {x d : α} (h : xs[k]? = some x) : xs.getD k d = x := by
  rw [List.getD_eq_getElem?_getD, h]; rfl
def listI' (x : List Int) : D := .list (x.map PyData.int)
theorem at_int {x : List Int} {c : Nat} (h : c < x.length) : itemD (.list (x.map PyData.int)) (c : Int) = some (.int (x.getD c 0)) := by
  show atI (x.map PyData.int) (c : Int) = _
  rw [getD_of (List.getElem?_eq_getElem h)]
  exact atI_map (List.getElem?_eq_getElem h)
theorem at_tup {α : Type} {x : List α} {g : α → D} {c : Nat} {d : α} (h : c < x.length) : itemD (.tuple (x.map g)) (c : Int) = some (g (x.getD c d)) := by
  show atI (x.map g) (c : Int) = _
  rw [getD_of (List.getElem?_eq_getElem h)]
  exact atI_map (List.getElem?_eq_getElem h)
theorem at_lst {α : Type} {x : List α} {g : α → D} {c : Nat} {d : α} (h : c < x.length) : itemD (.list (x.map g)) (c : Int) = some (g (x.getD c d)) := at_tup h
/-! ### frames as data -/
structure Mem where
  i : Nat
  j : Nat
  pull : Option Int
  push : Option Int
instance : Inhabited Mem := ⟨⟨0, 0, none, none⟩⟩
def limV : Option Int → D
  | none => .none
  | some n => .int n
def memV (m : Mem) : D := .tuple [.int (m.i : Nat), .int (m.j : Nat), limV m.pull, limV m.push]
def frameV (ps : List (Int × Int)) (ms : List Mem) (pins : List Int) : D := .tuple [.tuple (ps.map numV), .tuple (ms.map memV), .tuple (pins.map PyData.int)]
def limOk (b : Int) : Option Int → Prop
  | none => True
  | some n => 0 ≤ n ∧ n ≤ b
/-- coordinates up to c, limits up to b -/
structure FrOk (c b : Int) (ps : List (Int × Int)) (ms : List Mem) (pins : List Int) : Prop where
  pc : ∀ p ∈ ps, -c ≤ p.1 ∧ p.1 ≤ c ∧ -c ≤ p.2 ∧ p.2 ≤ c
  mi : ∀ m ∈ ms, m.i < m.j ∧ m.j < ps.length ∧ limOk b m.pull ∧ limOk b m.push ∧ ps.getD m.i (0, 0) ≠ ps.getD m.j (0, 0)
  nd : (ms.map fun m => (m.i, m.j)).Nodup
  pn : ∀ p ∈ pins, 0 ≤ p ∧ p < ps.length
  ps : pins.Pairwise (· < ·)
/-! ### drawn frames -/
def Pre_points (ds : List D) : Prop := ∃ (sc : List Int) (n s : Nat), ds = [.list (sc.map PyData.int), .int (n : Nat), .int (s : Nat)] ∧ n ≤ 100 ∧ 1 ≤ s ∧ s ≤ 1000
def Post_points (ds : List D) (d : D) : Prop := ∀ (sc : List Int) (n s : Nat), ds = [.list (sc.map PyData.int), .int (n : Nat), .int (s : Nat)] → ∃ ps : List (Int × Int), d = .tuple (ps.map numV) ∧ ps.length = n ∧ ∀ p ∈ ps, -1 ≤ p.1 ∧ p.1 < s ∧ -1 ≤ p.2 ∧ p.2 < s
theorem natI {a b : Nat} (h : PyData.int (a : Nat) = .int (b : Nat)) : a = b := by injection h with h; omega
theorem parts2 {cell : Int} {s : Nat} (h1 : 1 ≤ s) : ∀ i, i < 2 → 0 ≤ (partsOf cell [(s : Int), s]).getD i 0 ∧ (partsOf cell [(s : Int), s]).getD i 0 < s := fun i hi => by
  rcases (show i = 0 ∨ i = 1 by omega) with rfl | rfl <;> exact parts_get _ rfl (by omega)
theorem ok_u_law_points (T : Txt K mg) : FnOk P w K mg base CX0 2 T.f_u_law_points T.fd_u_law_points ["script", "n", "size"] (spP K Pre_points Post_points) := by
  refine ok_wpP T.F_u_law_points sc_u_law_points ?_ (fun cdv hcv A outer s H E hr => ⟨_, (pss_cons (ps_set (i := 3) sc_u_law_points.nd rfl (by first | exact Or.inl rfl | exact Or.inr rfl) (pe_lst pa_nil))
      (pss_cons (ps_for PassesOwn.never rfl (pi_range1 (by rfl) T.z_range (pa_cons (pv 1) pa_nil)) (pg_name (i := 4) sc_u_law_points.nd rfl (by first | exact Or.inl rfl | exact Or.inr rfl))
      (pss_cons (ps_set (i := 5) sc_u_law_points.nd rfl (by first | exact Or.inl rfl | exact Or.inr rfl) (pe_call (ok_u_law_parts T) (hr.mono (by decide)) (by rfl) T.g_u_law_parts T.F_u_law_parts.kp T.b_u_law_parts .nil pass0 (pa_cons (pe_op op_add (pe_call (ok_u_law_cell T) (hr.mono (by decide)) (by rfl) T.g_u_law_cell T.F_u_law_cell.kp T.b_u_law_cell .nil pass0 (pa_cons (pv 0) (pa_cons (pe_op op_add pe_int (pv 4)) pa_nil))) (pe_op op_mulX pe_int (pv 4))) (pa_cons (pe_lst (pa_cons (pv 2) (pa_cons (pv 2) pa_nil))) pa_nil))))
      (pss_one (ps_expr (pe_bm PySem.F.plainAttrs_list PySem.F.slot_list_append PySem.F.type_list_append mt_append (pv 3) (pa_cons (pe_tup (pa_cons (pe_op op_sub (pe_ix (kx_ix (K := K)) (pv 5) pe_int (fun _ _ => rfl)) pe_int) (pa_cons (pe_op op_sub (pe_ix (kx_ix (K := K)) (pv 5) pe_int (fun _ _ => rfl)) pe_int) pa_nil))) pa_nil))))))
      (pss_one (ps_ret (pe_callTy (kx_tuple (K := K)) (by rfl) T.z_tuple (by decide +kernel) (pa_cons (pv 3) pa_nil)))))), ?_⟩)
  all_goals (try simp only [nox_K, blk_K, cx_K])
  · rintro ds ⟨sc, n, s, rfl, _⟩; rfl
  · rintro ds ⟨sc, n, s, rfl, hn, h1, h2⟩
    refine wp_seq (wp_asgN (by walk_at "ev") ?_)
    refine wp_seq (wp_forG (xs := List.range n) (g := fun k => PyData.int (k : Nat))
      (fun k δ => ∃ (ps : List (Int × Int)) (a b : SV), δ = [.val (.list (sc.map PyData.int)), .val (.int (n : Nat)), .val (.int (s : Nat)), .own (.l (ps.map numV)), a, b] ∧ ps.length = k ∧ ∀ p ∈ ps, -1 ≤ p.1 ∧ p.1 < s ∧ -1 ≤ p.2 ∧ p.2 < s)
      (by repeat' first | walk_at "ev2" | (show (_ : Nat) ≤ _; omega) | fail) ⟨[], _, _, rfl, rfl, fun p hp => by cases hp⟩ ?_ ?_)
    · rintro k x δ ex ⟨ps, a, b, rfl, hl, hp⟩
      have hk : k < n := by
        have := (List.getElem?_eq_some_iff.mp ex).1
        rwa [List.length_range] at this
      have : x = k := by
        rw [List.getElem?_range hk] at ex
        exact (Option.some.inj ex).symm
      subst this
      have c1 : R_cell [.list (sc.map PyData.int), .int (3 + x : Nat)] (.int (sc.getD (3 + x) 0)) := ⟨sc, 3 + x, rfl, rfl⟩
      have e1 : ((3 : Int) + (x : Nat)) = ((3 + x : Nat) : Int) := by omega
      have p1 : R_parts [.int (sc.getD (3 + x) 0 + 17 * x), .list [.int (s : Nat), .int (s : Nat)]] (.list ((partsOf (sc.getD (3 + x) 0 + 17 * x) [(s : Int), s]).map PyData.int)) :=
        ⟨_, [(s : Int), s], rfl, sizes_ok (by intro z hz; simp at hz; subst hz; exact ⟨by omega, by omega⟩), by show 2 ≤ 1000; decide, rfl⟩
      have l1 : (partsOf (sc.getD (3 + x) 0 + 17 * x) [(s : Int), s]).length = 2 := parts_len _ _
      have g := parts2 (cell := sc.getD (3 + x) 0 + 17 * x) h1
      generalize partsOf (sc.getD (3 + x) 0 + 17 * x) [(s : Int), s] = Q at *
      have q0 : itemD (.list (Q.map PyData.int)) 0 = some (.int (Q.getD 0 0)) := at_int (c := 0) (by omega)
      have q1 : itemD (.list (Q.map PyData.int)) 1 = some (.int (Q.getD 1 0)) := at_int (c := 1) (by omega)
      refine wp_seq (wp_asg (d := .list (Q.map PyData.int)) (by repeat' first | walk_at "ev2" | exact e1 ▸ c1 | exact p1 | exact mulL (by decide) | fail) ?_)
      refine wp_app (d := numV (Q.getD 0 0 - 1, Q.getD 1 0 - 1)) rfl (ED.of (d := .tuple [.int (Q.getD 0 0 - 1), .int (Q.getD 1 0 - 1)]) (by repeat' first | walk_at "ev2" | exact q0 | exact q1 | fail) rfl) (by rw [List.length_map]; exact small1000 (by omega)) ?_
      refine ⟨ps ++ [(Q.getD 0 0 - 1, Q.getD 1 0 - 1)], _, _, by rw [List.map_append]; rfl, by rw [List.length_append, hl]; rfl, fun p hp2 => ?_⟩
      rcases List.mem_append.mp hp2 with z | z
      · exact hp p z
      · rw [List.mem_singleton.mp z]
        have g0 := g 0 (by decide)
        have g1 := g 1 (by decide)
        exact ⟨by show _ ≤ _ - (1 : Int); omega, by show _ - (1 : Int) < _; omega, by show _ ≤ _ - (1 : Int); omega, by show _ - (1 : Int) < _; omega⟩
    · rintro δ ⟨ps, a, b, rfl, hl, hp⟩
      rw [List.length_range] at hl
      refine wp_freeze 3 rfl (wp_retP (P := fun d => d = .tuple (ps.map numV)) (ED.ep (ed_tupleOf (ed_var rfl) rfl)) ?_)
      rintro d rfl sc' n' s' e
      injection e with _ e; injection e with e1 e; injection e with e2 _
      have := natI e1
      have := natI e2
      subst_vars
      exact ⟨ps, rfl, rfl, hp⟩
/-! limits -/
def Pre_limits (ds : List D) : Prop := ∃ (g st : Int), ds = [.int g, .int st]
def Post_limits (d : D) : Prop := ∃ a b : Option Int, d = .tuple [limV a, limV b] ∧ limOk 9 a ∧ limOk 9 b
theorem ok_u_law_limits (T : Txt K mg) : FnOk P w K mg base CX0 1 T.f_u_law_limits T.fd_u_law_limits ["digit", "style"] (spP K Pre_limits (fun _ => Post_limits)) := by
  refine ok_wpP T.F_u_law_limits sc_u_law_limits ?_ (fun cdv hcv A outer s H E hr => ⟨_, (pss_cons (ps_set (i := 2) sc_u_law_limits.nd rfl (by first | exact Or.inl rfl | exact Or.inr rfl) (pe_op op_add pe_int (pe_op op_mod (pe_op op_fdivX (pe_callTy cr_intQ (by rfl) T.z_int (by decide +kernel) (pa_cons (pv 0) pa_nil)) pe_int) pe_int)))
      (pss_cons (ps_if (pt_cmpR (kx_eq (K := K) hr.units) (pv 1) pe_int (nomark _)) (pss_one (ps_ret (pe_tup (pa_cons pe_non (pa_cons pe_non pa_nil))))) pss_nil)
      (pss_cons (ps_if (pt_cmpR (kx_eq (K := K) hr.units) (pv 1) pe_int (nomark _)) (pss_one (ps_ret (pe_ix (kx_ix (K := K)) (pe_lst (pa_cons (pe_tup (pa_cons pe_non (pa_cons pe_non pa_nil))) (pa_cons (pe_tup (pa_cons pe_non (pa_cons pe_int pa_nil))) (pa_cons (pe_tup (pa_cons pe_int (pa_cons pe_non pa_nil))) (pa_cons (pe_tup (pa_cons pe_non (pa_cons pe_non pa_nil))) pa_nil))))) (pe_op op_mod (pe_callTy cr_intQ (by rfl) T.z_int (by decide +kernel) (pa_cons (pv 0) pa_nil)) pe_int) (fun _ _ => rfl)))) pss_nil)
      (pss_cons (ps_if (pt_cmpR (kx_eq (K := K) hr.units) (pv 1) pe_int (nomark _)) (pss_cons (ps_set (i := 3) sc_u_law_limits.nd rfl (by first | exact Or.inl rfl | exact Or.inr rfl) (pe_op op_add pe_int (pe_op op_mod (pe_op op_fdivX (pe_callTy cr_intQ (by rfl) T.z_int (by decide +kernel) (pa_cons (pv 0) pa_nil)) pe_int) pe_int)))
      (pss_cons (ps_set (i := 4) sc_u_law_limits.nd rfl (by first | exact Or.inl rfl | exact Or.inr rfl) (pe_op op_mod (pe_callTy cr_intQ (by rfl) T.z_int (by decide +kernel) (pa_cons (pv 0) pa_nil)) pe_int))
      (pss_one (ps_ret (pe_ix (kx_ix (K := K)) (pe_lst (pa_cons (pe_tup (pa_cons pe_non (pa_cons pe_non pa_nil))) (pa_cons (pe_tup (pa_cons pe_non (pa_cons pe_int pa_nil))) (pa_cons (pe_tup (pa_cons pe_int (pa_cons pe_non pa_nil))) (pa_cons (pe_tup (pa_cons (pv 2) (pa_cons pe_non pa_nil))) (pa_cons (pe_tup (pa_cons pe_non (pa_cons (pv 2) pa_nil))) (pa_cons (pe_tup (pa_cons (pv 2) (pa_cons (pv 3) pa_nil))) (pa_cons (pe_tup (pa_cons pe_int (pa_cons (pv 2) pa_nil))) pa_nil)))))))) (pv 4) (fun _ _ => rfl)))))) pss_nil)
      (pss_one (ps_ret (pe_tup (pa_cons (pv 2) (pa_cons (pe_op op_add pe_int (pe_op op_mod (pe_op op_fdivX (pe_callTy cr_intQ (by rfl) T.z_int (by decide +kernel) (pa_cons (pv 0) pa_nil)) pe_int) pe_int)) pa_nil))))))))), ?_⟩)
  all_goals (try simp only [nox_K, blk_K, cx_K])
  · rintro ds ⟨g, st, rfl⟩; rfl
  · rintro ds ⟨g, st, rfl⟩
    have b1 : limOk 9 (some (1 + g.fdiv 7 % 9)) := ⟨by have := Int.emod_nonneg (g.fdiv 7) (show (9 : Int) ≠ 0 by decide); show 0 ≤ _; omega, by have := Int.emod_lt_of_pos (g.fdiv 7) (show (0 : Int) < 9 by decide); show _ ≤ (9 : Int); omega⟩
    have b2 : limOk 9 (some (1 + g.fdiv 63 % 9)) := ⟨by have := Int.emod_nonneg (g.fdiv 63) (show (9 : Int) ≠ 0 by decide); show 0 ≤ _; omega, by have := Int.emod_lt_of_pos (g.fdiv 63) (show (0 : Int) < 9 by decide); show _ ≤ (9 : Int); omega⟩
    have b0 : limOk 9 (some 0) := ⟨by decide, by decide⟩
    have bn : limOk 9 none := True.intro
    refine wp_seq (wp_asg (d := .int (1 + g.fdiv 7 % 9)) (by repeat' first | walk_at "ev2" | exact divX (k := 10) (by decide) (by unfold Lt; decide) | (show (0 : Int) < _; decide) | fail) ?_)
    refine wp_seq (wp_if (by walk_at "ev") (fun _ => ?_) (fun _ => wp_next ?_))
    · exact wp_ret (d := .tuple [.none, .none]) (by walk_at "ev") ⟨none, none, rfl, bn, bn⟩
    refine wp_seq (wp_if (by walk_at "ev") (fun _ => ?_) (fun _ => wp_next ?_))
    · have h0 := Int.emod_nonneg g (show (4 : Int) ≠ 0 by decide)
      have h1 := Int.emod_lt_of_pos g (show (0 : Int) < 4 by decide)
      obtain ⟨d, hd, hp⟩ : ∃ d, itemD (.list [.tuple [.none, .none], .tuple [.none, .int 0], .tuple [.int 0, .none], .tuple [.none, .none]]) (g % 4) = some d ∧ Post_limits d := by
        rcases (show g % 4 = 0 ∨ g % 4 = 1 ∨ g % 4 = 2 ∨ g % 4 = 3 by omega) with h | h | h | h <;> rw [h]
        · exact ⟨_, rfl, none, none, rfl, bn, bn⟩
        · exact ⟨_, rfl, none, some 0, rfl, bn, b0⟩
        · exact ⟨_, rfl, some 0, none, rfl, b0, bn⟩
        · exact ⟨_, rfl, none, none, rfl, bn, bn⟩
      exact wp_ret (d := d) (by repeat' first | walk_at "ev2" | exact hd | (show (0 : Int) < _; decide) | fail) hp
    refine wp_seq (wp_if (by walk_at "ev") (fun _ => ?_) (fun _ => wp_next ?_))
    · refine wp_seq (wp_asg (d := .int (1 + g.fdiv 63 % 9)) (by repeat' first | walk_at "ev2" | exact divX (k := 10) (by decide) (by unfold Lt; decide) | (show (0 : Int) < _; decide) | fail) ?_)
      refine wp_seq (wp_asg (d := .int (g % 7)) (by repeat' first | walk_at "ev2" | (show (0 : Int) < _; decide) | fail) ?_)
      have h0 := Int.emod_nonneg g (show (7 : Int) ≠ 0 by decide)
      have h1 := Int.emod_lt_of_pos g (show (0 : Int) < 7 by decide)
      generalize 1 + g.fdiv 7 % 9 = L1 at *
      generalize 1 + g.fdiv 63 % 9 = L2 at *
      generalize g % 7 = C at *
      obtain ⟨d, hd, hp⟩ : ∃ d, itemD (.list [.tuple [.none, .none], .tuple [.none, .int 0], .tuple [.int 0, .none], .tuple [.int L1, .none], .tuple [.none, .int L1], .tuple [.int L1, .int L2], .tuple [.int 0, .int L1]]) C = some d ∧ Post_limits d := by
        rcases (show C = 0 ∨ C = 1 ∨ C = 2 ∨ C = 3 ∨ C = 4 ∨ C = 5 ∨ C = 6 by omega) with h | h | h | h | h | h | h <;> rw [h]
        · exact ⟨_, rfl, none, none, rfl, bn, bn⟩
        · exact ⟨_, rfl, none, some 0, rfl, bn, b0⟩
        · exact ⟨_, rfl, some 0, none, rfl, b0, bn⟩
        · exact ⟨_, rfl, some _, none, rfl, b1, bn⟩
        · exact ⟨_, rfl, none, some _, rfl, bn, b1⟩
        · exact ⟨_, rfl, some _, some _, rfl, b1, b2⟩
        · exact ⟨_, rfl, some 0, some _, rfl, b0, b1⟩
      exact wp_ret (d := d) (by repeat' first | walk_at "ev2" | exact hd | fail) hp
    · exact wp_ret (d := .tuple [.int (1 + g.fdiv 7 % 9), .int (1 + g.fdiv 63 % 9)]) (by repeat' first | walk_at "ev2" | exact divX (k := 10) (by decide) (by unfold Lt; decide) | (show (0 : Int) < _; decide) | fail) ⟨some _, some _, rfl, b1, b2⟩

/-! members -/
def tri : Nat → Nat
  | 0 => 0
  | m + 1 => m + tri m
theorem tri_mono : ∀ {a b : Nat}, a ≤ b → tri a ≤ tri b
  | a, 0, h => by
    have : a = 0 := by omega
    subst this; exact Nat.le_refl _
  | a, b + 1, h => by
    by_cases e : a = b + 1
    · subst e; exact Nat.le_refl _
    · exact Nat.le_trans (tri_mono (a := a) (b := b) (by omega)) (Nat.le_add_left _ _)
theorem ei_rngIJ {K : PySem.W.Frag} {δ : List SV} {ta tb : TE} {a b : Int} {m n : Nat} (h : ED K ta δ (.int a)) (h' : ED K tb δ (.int b)) (ea : a = (m : Nat)) (eb : b = (n : Nat)) (hm : m ≤ 1000) (hn : n ≤ 1000) : EI K (iRng2 (tCons ta (tCons tb tNil))) δ ((List.range (n - m)).map fun k => PyData.int ((m + k : Nat) : Int)) := by
  subst ea; subst eb
  refine EI.of (ei_rng2 h h' ⟨by omega, by omega, by omega, by omega⟩) ?_
  unfold rngD
  have : ((n : Int) - (m : Int)).toNat = n - m := by omega
  rw [this]
  congr 1
theorem eqv_num {p q : Int × Int} : PyData.eqv (numV p) (numV q) = decide (p = q) := by
  obtain ⟨a, b⟩ := p
  obtain ⟨c, d⟩ := q
  by_cases h1 : a = c
  · by_cases h2 : b = d
    · subst h1; subst h2
      rw [eqv_self (n := 1) shp_num]; simp
    · have : PyData.eqv (numV (a, b)) (numV (c, d)) = false := by
        show (PyData.eqv (.int a) (.int c) && (PyData.eqv (.int b) (.int d) && true)) = false
        have : PyData.eqv (.int b) (.int d) = false := by show (b == d) = false; simpa using h2
        rw [this]; simp
      rw [this]
      simp [h2]
  · have : PyData.eqv (numV (a, b)) (numV (c, d)) = false := by
      show (PyData.eqv (.int a) (.int c) && (PyData.eqv (.int b) (.int d) && true)) = false
      have : PyData.eqv (.int a) (.int c) = false := by show (a == c) = false; simpa using h1
      rw [this]; simp
    rw [this]
    simp [h1]
structure MbOk (n : Nat) (ps : List (Int × Int)) (ms : List Mem) : Prop where
  mi : ∀ m ∈ ms, m.i < m.j ∧ m.j < n ∧ limOk 9 m.pull ∧ limOk 9 m.push ∧ ps.getD m.i (0, 0) ≠ ps.getD m.j (0, 0)
  nd : (ms.map fun m => (m.i, m.j)).Nodup
def Pre_members (ds : List D) : Prop := ∃ (sc : List Int) (ps : List (Int × Int)) (st : Int), ds = [.list (sc.map PyData.int), .tuple (ps.map numV), .int st] ∧ ps.length ≤ 8
def Post_members (ds : List D) (d : D) : Prop := ∀ (sc : List Int) (ps : List (Int × Int)) (st : Int), ds = [.list (sc.map PyData.int), .tuple (ps.map numV), .int st] → ∃ ms : List Mem, d = .tuple (ms.map memV) ∧ MbOk ps.length ps ms ∧ ms.length ≤ tri ps.length
theorem numV_inj {p q : Int × Int} (h : numV p = numV q) : p = q := by
  obtain ⟨a, b⟩ := p
  obtain ⟨c, d⟩ := q
  unfold numV at h
  injection h with h
  injection h with h1 h
  injection h with h2 _
  injection h1 with h1
  injection h2 with h2
  rw [show a = c from h1, show b = d from h2]
theorem map_numV_inj : ∀ {xs ys : List (Int × Int)}, xs.map numV = ys.map numV → xs = ys
  | [], [], _ => rfl
  | [], _ :: _, h => by cases h
  | _ :: _, [], h => by cases h
  | x :: xs, y :: ys, h => by
    rw [List.map_cons, List.map_cons] at h
    injection h with h1 h2
    rw [numV_inj h1, map_numV_inj h2]
theorem map_int_inj : ∀ {xs ys : List Int}, xs.map PyData.int = ys.map PyData.int → xs = ys
  | [], [], _ => rfl
  | [], _ :: _, h => by cases h
  | _ :: _, [], h => by cases h
  | x :: xs, y :: ys, h => by
    rw [List.map_cons, List.map_cons] at h
    injection h with h1 h2
    injection h1 with h1
    rw [show x = y from h1, map_int_inj h2]
theorem ok_u_law_members (T : Txt K mg) : FnOk P w K mg base CX0 2 T.f_u_law_members T.fd_u_law_members ["script", "points", "style"] (spP K Pre_members Post_members) := by
  refine ok_wpP T.F_u_law_members sc_u_law_members ?_ (fun cdv hcv A outer s H E hr => ⟨_, (pss_cons (ps_set (i := 3) sc_u_law_members.nd rfl (by first | exact Or.inl rfl | exact Or.inr rfl) (pe_callB (kx_len (K := K)) (by rfl) T.z_len (by decide +kernel) (pa_cons (pv 1) pa_nil)))
      (pss_cons (ps_set (i := 4) sc_u_law_members.nd rfl (by first | exact Or.inl rfl | exact Or.inr rfl) (pe_call (ok_u_law_parts T) (hr.mono (by decide)) (by rfl) T.g_u_law_parts T.F_u_law_parts.kp T.b_u_law_parts .nil pass0 (pa_cons (pe_call (ok_u_law_cell T) (hr.mono (by decide)) (by rfl) T.g_u_law_cell T.F_u_law_cell.kp T.b_u_law_cell .nil pass0 (pa_cons (pv 0) (pa_cons pe_int pa_nil))) (pa_cons (pe_op op_rep (pe_lst (pa_cons pe_int pa_nil)) pe_int) pa_nil))))
      (pss_cons (ps_set (i := 5) sc_u_law_members.nd rfl (by first | exact Or.inl rfl | exact Or.inr rfl) (pe_call (ok_u_law_parts T) (hr.mono (by decide)) (by rfl) T.g_u_law_parts T.F_u_law_parts.kp T.b_u_law_parts .nil pass0 (pa_cons (pe_call (ok_u_law_cell T) (hr.mono (by decide)) (by rfl) T.g_u_law_cell T.F_u_law_cell.kp T.b_u_law_cell .nil pass0 (pa_cons (pv 0) (pa_cons pe_int pa_nil))) (pa_cons (pe_op op_rep (pe_lst (pa_cons pe_int pa_nil)) pe_int) pa_nil))))
      (pss_cons (ps_set (i := 6) sc_u_law_members.nd rfl (by first | exact Or.inl rfl | exact Or.inr rfl) (pe_lst pa_nil))
      (pss_cons (ps_set (i := 7) sc_u_law_members.nd rfl (by first | exact Or.inl rfl | exact Or.inr rfl) pe_int)
      (pss_cons (ps_for PassesOwn.never rfl (pi_range1 (by rfl) T.z_range (pa_cons (pv 3) pa_nil)) (pg_name (i := 8) sc_u_law_members.nd rfl (by first | exact Or.inl rfl | exact Or.inr rfl))
      (pss_one (ps_for PassesOwn.never rfl (pi_range2 (by rfl) T.z_range (pa_cons (pe_op op_add (pv 8) pe_int) (pa_cons (pv 3) pa_nil))) (pg_name (i := 9) sc_u_law_members.nd rfl (by first | exact Or.inl rfl | exact Or.inr rfl))
      (pss_cons (ps_if (PW.pt (pw_and (pt_cmpR (kx_ne (K := K) hr.units) (pe_ix (kx_ix (K := K)) (pv 1) (pv 8) (fun _ _ => rfl)) (pe_ix (kx_ix (K := K)) (pv 1) (pv 9) (fun _ _ => rfl)) (nomark _)) (pw_and1 (pt_cmpR op_gt (pe_ix (kx_ix (K := K)) (pv 4) (pv 7) (fun _ _ => rfl)) pe_int (nomark _))))) (pss_one (ps_expr (pe_bm PySem.F.plainAttrs_list PySem.F.slot_list_append PySem.F.type_list_append mt_append (pv 6) (pa_cons (pe_op (kx_catA (K := K)) (pe_tup (pa_cons (pv 8) (pa_cons (pv 9) pa_nil))) (pe_call (ok_u_law_limits T) (hr.mono (by decide)) (by rfl) T.g_u_law_limits T.F_u_law_limits.kp T.b_u_law_limits .nil pass0 (pa_cons (pe_ix (kx_ix (K := K)) (pv 5) (pv 7) (fun _ _ => rfl)) (pa_cons (pv 2) pa_nil)))) pa_nil)))) pss_nil)
      (pss_one (ps_set (i := 7) sc_u_law_members.nd rfl (by first | exact Or.inl rfl | exact Or.inr rfl) (pe_op op_add (pv 7) pe_int)))))))
      (pss_one (ps_ret (pe_callTy (kx_tuple (K := K)) (by rfl) T.z_tuple (by decide +kernel) (pa_cons (pv 6) pa_nil)))))))))), ?_⟩)
  all_goals (try simp only [nox_K, blk_K, cx_K])
  · rintro ds ⟨sc, ps, st, rfl, _⟩; rfl
  · rintro ds ⟨sc, ps, st, rfl, hn⟩
    have cell : ∀ k : Nat, R_cell [.list (sc.map PyData.int), .int k] (.int (sc.getD k 0)) := fun k => ⟨sc, k, rfl, rfl⟩
    refine wp_seq (wp_asg (d := .int (ps.length : Nat)) (ED.of (d := .int ((ps.map numV).length : Nat)) (by walk_at "ev") (by rw [List.length_map])) ?_)
    have p1 : R_parts [.int (sc.getD 1 0), .list ((List.replicate 28 (4 : Int)).map PyData.int)] (.list ((partsOf (sc.getD 1 0) (List.replicate 28 4)).map PyData.int)) := ⟨_, List.replicate 28 4, rfl, sizes_ok (by decide +kernel), by decide, rfl⟩
    have p2 : R_parts [.int (sc.getD 2 0), .list ((List.replicate 28 (567 : Int)).map PyData.int)] (.list ((partsOf (sc.getD 2 0) (List.replicate 28 567)).map PyData.int)) := ⟨_, List.replicate 28 567, rfl, sizes_ok (by decide +kernel), by decide, rfl⟩
    have l1 : (partsOf (sc.getD 1 0) (List.replicate 28 4)).length = 28 := parts_len _ _
    have l2 : (partsOf (sc.getD 2 0) (List.replicate 28 567)).length = 28 := parts_len _ _
    generalize partsOf (sc.getD 1 0) (List.replicate 28 4) = Q1 at *
    generalize partsOf (sc.getD 2 0) (List.replicate 28 567) = Q2 at *
    have c1 := cell 1
    have c2 := cell 2
    refine wp_seq (wp_asg (d := .list (Q1.map PyData.int)) (by repeat' first | walk_at "ev2" | exact c1 | exact p1 | (show -(2 ^ 63) ≤ _ ∧ _; decide) | fail) ?_)
    refine wp_seq (wp_asg (d := .list (Q2.map PyData.int)) (by repeat' first | walk_at "ev2" | exact c2 | exact p2 | (show -(2 ^ 63) ≤ _ ∧ _; decide) | fail) ?_)
    refine wp_seq (wp_asgN (by walk_at "ev") ?_)
    refine wp_seq (wp_asg (by walk_at "ev") ?_)
    have t28 : tri ps.length ≤ 28 := Nat.le_trans (tri_mono hn) (by decide)
    refine wp_seq (wp_forG (xs := List.range ps.length) (g := fun k => PyData.int (k : Nat))
      (fun i δ => ∃ (ms : List Mem) (at_ : Nat) (a b : SV), δ = [.val (.list (sc.map PyData.int)), .val (.tuple (ps.map numV)), .val (.int st), .val (.int (ps.length : Nat)), .val (.list (Q1.map PyData.int)), .val (.list (Q2.map PyData.int)), .own (.l (ms.map memV)), .val (.int (at_ : Nat)), a, b] ∧
        at_ + tri (ps.length - i) = tri ps.length ∧ ms.length ≤ at_ ∧ MbOk ps.length ps ms ∧ ∀ m ∈ ms, m.i < i)
      (by repeat' first | walk_at "ev2" | (show (_ : Nat) ≤ _; omega) | fail) ⟨[], 0, _, _, rfl, by simp, Nat.le_refl _, ⟨fun m hm => (by cases hm), List.nodup_nil⟩, fun m hm => by cases hm⟩ ?_ ?_)
    · rintro i x δ ex ⟨ms, at_, a, b, rfl, hat, hml, hok, hlt⟩
      have hi : i < ps.length := by
        have := (List.getElem?_eq_some_iff.mp ex).1
        rwa [List.length_range] at this
      have : x = i := by
        rw [List.getElem?_range hi] at ex
        exact (Option.some.inj ex).symm
      subst this
      have hsub : ps.length - x = (ps.length - (x + 1)) + 1 := by omega
      rw [hsub] at hat
      have hat : at_ + ((ps.length - (x + 1)) + tri (ps.length - (x + 1))) = tri ps.length := hat
      refine wp_forG (xs := List.range (ps.length - (x + 1))) (g := fun k => PyData.int ((x + 1 + k : Nat) : Int))
        (fun t δ => ∃ (ms' : List Mem) (a2 : Nat) (b : SV), δ = [.val (.list (sc.map PyData.int)), .val (.tuple (ps.map numV)), .val (.int st), .val (.int (ps.length : Nat)), .val (.list (Q1.map PyData.int)), .val (.list (Q2.map PyData.int)), .own (.l (ms'.map memV)), .val (.int (a2 : Nat)), .val (.int (x : Nat)), b] ∧
          a2 = at_ + t ∧ ms'.length ≤ a2 ∧ MbOk ps.length ps ms' ∧ ∀ m ∈ ms', m.i < x ∨ (m.i = x ∧ m.j < x + 1 + t))
        (ei_rngIJ (m := x + 1) (n := ps.length) (by walk_at "ev") (by walk_at "ev") (by omega) rfl (by omega) (by omega)) ⟨ms, at_, _, rfl, by omega, hml, hok, fun m hm => .inl (hlt m hm)⟩ ?_ ?_
      · rintro t y δ ey ⟨ms', a2, b, rfl, ea, hml, hok, hlt⟩
        have ht : t < ps.length - (x + 1) := by
          have := (List.getElem?_eq_some_iff.mp ey).1
          rwa [List.length_range] at this
        have : y = t := by
          rw [List.getElem?_range ht] at ey
          exact (Option.some.inj ey).symm
        subst this
        have ha28 : a2 < 28 := by omega
        have pi : itemD (.tuple (ps.map numV)) (x : Nat) = some (numV (ps.getD x (0, 0))) := at_tup hi
        have pj : itemD (.tuple (ps.map numV)) ((x + 1 + y : Nat) : Int) = some (numV (ps.getD (x + 1 + y) (0, 0))) := at_tup (by omega)
        have d1 : itemD (.list (Q1.map PyData.int)) (a2 : Nat) = some (.int (Q1.getD a2 0)) := at_int (by omega)
        have d2 : itemD (.list (Q2.map PyData.int)) (a2 : Nat) = some (.int (Q2.getD a2 0)) := at_int (by omega)
        refine wp_seq (wp_cut (fun δ => ∃ (ms' : List Mem), δ = [.val (.list (sc.map PyData.int)), .val (.tuple (ps.map numV)), .val (.int st), .val (.int (ps.length : Nat)), .val (.list (Q1.map PyData.int)), .val (.list (Q2.map PyData.int)), .own (.l (ms'.map memV)), .val (.int (a2 : Nat)), .val (.int (x : Nat)), .val (.int ((x + 1 + y : Nat) : Int))] ∧
          ms'.length ≤ a2 + 1 ∧ MbOk ps.length ps ms' ∧ ∀ m ∈ ms', m.i < x ∨ (m.i = x ∧ m.j < x + 1 + (y + 1)))
          (wp_if (b := decide (ps.getD x (0, 0) ≠ ps.getD (x + 1 + y) (0, 0)) && decide (Q1.getD a2 0 > 0)) (ET.of (by repeat' first | walk_at "ev2" | exact pi | exact pj | exact d1 | fail) (by rw [eqv_num]; simp)) (fun h => ?_) (fun h => ?_)) ?_)
        · have hne := of_decide_eq_true ((Bool.and_eq_true _ _ ▸ h : _ ∧ _).1)
          refine (wp_appP (P := fun d => ∃ m : Mem, d = memV m ∧ m.i = x ∧ m.j = x + 1 + y ∧ limOk 9 m.pull ∧ limOk 9 m.push) rfl ?_ (by rw [List.length_map]; exact small1000 (by omega)) ?_)
          · refine ep_catT (ds := [.int (x : Nat), .int ((x + 1 + y : Nat) : Int)]) (by walk_at "ev") (ep_call (by repeat' first | walk_at "ev2" | exact d2 | fail) ⟨_, _, rfl⟩) ?_
            rintro d ⟨pa, pb, rfl, h1, h2⟩
            exact ⟨_, rfl, by simp, by show 2 + 2 ≤ sizeLine; exact sz_small (by decide), ⟨x, x + 1 + y, pa, pb⟩, rfl, rfl, rfl, h1, h2⟩
          · rintro d ⟨m, rfl, h1, h2, h3, h4⟩
            refine ⟨ms' ++ [m], by rw [List.map_append]; rfl, by rw [List.length_append]; show _ + 1 ≤ _; omega, ⟨fun q hq => ?_, ?_⟩, fun q hq => ?_⟩
            · rcases List.mem_append.mp hq with z | z
              · exact hok.mi q z
              · rw [List.mem_singleton.mp z, h1, h2]
                exact ⟨by omega, by omega, h3, h4, hne⟩
            · rw [List.map_append, List.nodup_append]
              refine ⟨hok.nd, by simp, fun q hq r hr => ?_⟩
              obtain ⟨z, hz, rfl⟩ := List.mem_map.mp hq
              simp only [List.map_cons, List.map_nil, List.mem_singleton] at hr
              subst hr
              rw [h1, h2]
              intro e
              injection e with e1 e2
              rcases hlt z hz with k | ⟨_, k⟩
              · omega
              · omega
            · rcases List.mem_append.mp hq with z | z
              · rcases hlt q z with k | ⟨k1, k2⟩
                · exact .inl k
                · exact .inr ⟨k1, by omega⟩
              · rw [List.mem_singleton.mp z, h1, h2]
                exact .inr ⟨rfl, by omega⟩
        · exact wp_next ⟨ms', rfl, by omega, hok, fun m hm => (hlt m hm).imp id fun ⟨k1, k2⟩ => ⟨k1, by omega⟩⟩
        · rintro δ ⟨ms2, rfl, h1, h2, h3⟩
          exact wp_asg (by walk_at "ev") ⟨ms2, a2 + 1, _, rfl, by omega, h1, h2, h3⟩
      · rintro δ ⟨ms', a2, b, rfl, ea, hml, hok, hlt⟩
        rw [List.length_range] at ea hlt
        refine ⟨ms', a2, _, _, rfl, by omega, hml, hok, fun m hm => ?_⟩
        rcases hlt m hm with k | ⟨k, _⟩ <;> omega
    · rintro δ ⟨ms, at_, a, b, rfl, hat, hml, hok, hlt⟩
      rw [List.length_range] at hat
      refine wp_freeze 6 rfl (wp_retP (P := fun d => d = .tuple (ms.map memV)) (ED.ep (ed_tupleOf (ed_var rfl) rfl)) ?_)
      rintro d rfl sc' ps' st' e
      injection e with _ e; injection e with e1 _; injection e1 with e1
      have := map_numV_inj e1
      subst this
      exact ⟨ms, rfl, hok, by omega⟩

/-! frames -/
def Pre_frame (ds : List D) : Prop := ∃ (sc : List Int) (n0 : Nat) (st : Int) (pd : Bool), ds = [.list (sc.map PyData.int), .int (n0 : Nat), .int st, .bool pd] ∧ 1 ≤ n0 ∧ n0 ≤ 3
def Post_frame (ds : List D) (d : D) : Prop := ∀ (sc : List Int) (n0 : Nat) (st : Int) (pd : Bool), ds = [.list (sc.map PyData.int), .int (n0 : Nat), .int st, .bool pd] →
  ∃ ps ms pins, d = frameV ps ms pins ∧ FrOk 7 9 ps ms pins ∧ n0 ≤ ps.length ∧ ps.length ≤ n0 + 4 ∧ ms.length ≤ tri (n0 + 4) ∧ pins.length ≤ 2 ∧ (pd = false → pins = [])
def szF : List Int := [5, 3, 6, 7]
theorem ok_u_law_frame (T : Txt K mg) : FnOk P w K mg base CX0 3 T.f_u_law_frame T.fd_u_law_frame ["script", "least", "style", "pinned"] (spP K Pre_frame Post_frame) := by
  refine ok_wpP T.F_u_law_frame sc_u_law_frame ?_ (fun cdv hcv A outer s H E hr => ⟨_, (pss_cons (ps_set (i := 4) sc_u_law_frame.nd rfl (by first | exact Or.inl rfl | exact Or.inr rfl) (pe_call (ok_u_law_parts T) (hr.mono (by decide)) (by rfl) T.g_u_law_parts T.F_u_law_parts.kp T.b_u_law_parts .nil pass0 (pa_cons (pe_call (ok_u_law_cell T) (hr.mono (by decide)) (by rfl) T.g_u_law_cell T.F_u_law_cell.kp T.b_u_law_cell .nil pass0 (pa_cons (pv 0) (pa_cons pe_int pa_nil))) (pa_cons (pe_lst (pa_cons pe_int (pa_cons pe_int (pa_cons pe_int (pa_cons pe_int pa_nil))))) pa_nil))))
      (pss_cons (ps_set (i := 5) sc_u_law_frame.nd rfl (by first | exact Or.inl rfl | exact Or.inr rfl) (pe_op op_add (pv 1) (pe_ix (kx_ix (K := K)) (pv 4) pe_int (fun _ _ => rfl))))
      (pss_cons (ps_set (i := 6) sc_u_law_frame.nd rfl (by first | exact Or.inl rfl | exact Or.inr rfl) (pe_call (ok_u_law_points T) (hr.mono (by decide)) (by rfl) T.g_u_law_points T.F_u_law_points.kp T.b_u_law_points .nil pass0 (pa_cons (pv 0) (pa_cons (pv 5) (pa_cons (pe_op op_add pe_int (pe_ix (kx_ix (K := K)) (pv 4) pe_int (fun _ _ => rfl))) pa_nil)))))
      (pss_cons (ps_set (i := 7) sc_u_law_frame.nd rfl (by first | exact Or.inl rfl | exact Or.inr rfl) (pe_lst pa_nil))
      (pss_cons (ps_if (kpt_truth (K := K) (pv 3) (by intro _; rfl)) (pss_one (ps_set (i := 7) sc_u_law_frame.nd rfl (by first | exact Or.inl rfl | exact Or.inr rfl) (pe_callB (kx_sortedSet (w := w)) (by rfl) T.z_sorted (by decide +kernel) (pa_cons (pe_callTy (kx_setL (K := K) (w := w)) (by rfl) T.z_set (by decide +kernel) (pa_cons (pe_lst (pa_cons (pe_op op_mod (pe_callTy cr_intQ (by rfl) T.z_int (by decide +kernel) (pa_cons (pe_ix (kx_ix (K := K)) (pv 4) pe_int (fun _ _ => rfl)) pa_nil)) (pv 5)) (pa_cons (pe_op op_mod (pe_callTy cr_intQ (by rfl) T.z_int (by decide +kernel) (pa_cons (pe_op op_add (pe_op op_add (pe_ix (kx_ix (K := K)) (pv 4) pe_int (fun _ _ => rfl)) pe_int) (pe_ix (kx_ix (K := K)) (pv 4) pe_int (fun _ _ => rfl))) pa_nil)) (pv 5)) pa_nil))) pa_nil)) pa_nil)))) pss_nil)
      (pss_one (ps_ret (pe_tup (pa_cons (pv 6) (pa_cons (pe_call (ok_u_law_members T) (hr.mono (by decide)) (by rfl) T.g_u_law_members T.F_u_law_members.kp T.b_u_law_members .nil pass0 (pa_cons (pv 0) (pa_cons (pv 6) (pa_cons (pv 2) pa_nil)))) (pa_cons (pe_callTy (kx_tuple (K := K)) (by rfl) T.z_tuple (by decide +kernel) (pa_cons (pv 7) pa_nil)) pa_nil))))))))))), ?_⟩)
  all_goals (try simp only [nox_K, blk_K, cx_K])
  · rintro ds ⟨sc, n0, st, pd, rfl, _⟩; rfl
  · rintro ds ⟨sc, n0, st, pd, rfl, h1, h3⟩
    have cell : R_cell [.list (sc.map PyData.int), .int 0] (.int (sc.getD 0 0)) := ⟨sc, 0, rfl, rfl⟩
    have p0 : R_parts [.int (sc.getD 0 0), .list (szF.map PyData.int)] (.list ((partsOf (sc.getD 0 0) szF).map PyData.int)) := ⟨_, szF, rfl, sizes_ok (by decide +kernel), by decide, rfl⟩
    have l0 : (partsOf (sc.getD 0 0) szF).length = 4 := parts_len _ _
    have g0 := parts_get (cell := sc.getD 0 0) (ss := szF) 0 (s := 5) rfl (by decide)
    have g1 := parts_get (cell := sc.getD 0 0) (ss := szF) 1 (s := 3) rfl (by decide)
    generalize partsOf (sc.getD 0 0) szF = Q at *
    have q0 : itemD (.list (Q.map PyData.int)) 0 = some (.int (Q.getD 0 0)) := at_int (c := 0) (by omega)
    have q1 : itemD (.list (Q.map PyData.int)) 1 = some (.int (Q.getD 1 0)) := at_int (c := 1) (by omega)
    have q2 : itemD (.list (Q.map PyData.int)) 2 = some (.int (Q.getD 2 0)) := at_int (c := 2) (by omega)
    have q3 : itemD (.list (Q.map PyData.int)) 3 = some (.int (Q.getD 3 0)) := at_int (c := 3) (by omega)
    refine wp_seq (wp_asg (d := .list (Q.map PyData.int)) (by repeat' first | walk_at "ev2" | exact cell | exact p0 | fail) ?_)
    obtain ⟨n, hn⟩ : ∃ n : Nat, (n0 : Int) + Q.getD 0 0 = n := ⟨((n0 : Int) + Q.getD 0 0).toNat, by omega⟩
    obtain ⟨s, hs⟩ : ∃ s : Nat, 4 + Q.getD 1 0 = s := ⟨(4 + Q.getD 1 0).toNat, by omega⟩
    refine wp_seq (wp_asg (d := .int (n : Nat)) (ED.of (d := .int ((n0 : Int) + Q.getD 0 0)) (by repeat' first | walk_at "ev2" | exact q0 | fail) (by rw [hn])) ?_)
    refine wp_seq (wp_asgP (ep_call (ds := [.list (sc.map PyData.int), .int (n : Nat), .int (s : Nat)]) (ea_cons (by walk_at "ev") (ea_cons (by walk_at "ev") (ea_cons (ED.of (d := .int (4 + Q.getD 1 0)) (by repeat' first | walk_at "ev2" | exact q1 | fail) (by rw [hs])) ea_nil))) ⟨sc, n, s, rfl, by omega, by omega, by omega⟩) fun d hd => ?_)
    obtain ⟨ps, rfl, hpl, hpb⟩ := hd sc n s rfl
    have hn1 : 1 ≤ n := by omega
    refine wp_seq (wp_asgN (by walk_at "ev") ?_)
    refine wp_seq (wp_cut (fun δ => ∃ pins : List Int, δ = [.val (.list (sc.map PyData.int)), .val (.int (n0 : Nat)), .val (.int st), .val (.bool pd), .val (.list (Q.map PyData.int)), .val (.int (n : Nat)), .val (.tuple (ps.map numV)), .val (.list (pins.map PyData.int))] ∧
      (∀ p ∈ pins, 0 ≤ p ∧ p < n) ∧ pins.Pairwise (· < ·) ∧ pins.length ≤ 2 ∧ (pd = false → pins = [])) (wp_if (b := pd) (by walk_at "ev") (fun h => ?_) (fun h => ?_)) ?_)
    · refine wp_asgP (ep_sortedSet (ns := [Q.getD 2 0 % (n : Int), (Q.getD 2 0 + 1 + Q.getD 3 0) % (n : Int)]) (ED.of (d := .list [.int (Q.getD 2 0 % (n : Int)), .int ((Q.getD 2 0 + 1 + Q.getD 3 0) % (n : Int))]) (by repeat' first | walk_at "ev2" | exact q2 | exact q3 | (show (0 : Int) < _; omega) | fail) rfl) (by show 2 ≤ 60; decide)) ?_
      rintro d ⟨pins, rfl, hpw, hm, hl⟩
      refine ⟨pins, rfl, fun p hp => ?_, hpw, hl, fun z => by rw [h] at z; cases z⟩
      have hz : (n : Int) ≠ 0 := by omega
      have hz2 : (0 : Int) < n := by omega
      have := (hm p).mp hp
      simp only [List.mem_cons, List.not_mem_nil, or_false] at this
      rcases this with e | e <;> rw [e]
      · exact ⟨Int.emod_nonneg _ hz, Int.emod_lt_of_pos _ hz2⟩
      · exact ⟨Int.emod_nonneg _ hz, Int.emod_lt_of_pos _ hz2⟩
    · exact wp_freeze 7 rfl (wp_next ⟨[], rfl, fun p hp => (by cases hp), List.Pairwise.nil, by decide, fun _ => rfl⟩)
    · rintro δ ⟨pins, rfl, hp1, hp2, hp3, hp4⟩
      refine wp_retP (ep_tup (eap_cons (ED.ep (ed_var rfl)) (eap_cons (ep_call (ds := [.list (sc.map PyData.int), .tuple (ps.map numV), .int st]) (by walk_at "ev") ⟨sc, ps, st, rfl, by omega⟩) (eap_cons (ED.ep (ed_tupleOf (ed_var rfl) rfl)) eap_nil))) ?_) ?_
      · rintro ds ⟨d1, es1, rfl, _, d2, es2, rfl, _, d3, es3, rfl, _, rfl⟩
        exact sz_small (by simp)
      · rintro d ⟨ds, rfl, d1, es1, rfl, rfl, d2, es2, rfl, hd2, d3, es3, rfl, rfl, rfl⟩ sc' n0' st' pd' e
        obtain ⟨ms, rfl, hok, hml⟩ := hd2 sc ps st rfl
        injection e with _ e; injection e with e1 e; injection e with e2 e; injection e with e3 e
        have := natI e1
        injection e3 with e3
        subst this
        have e3 : pd = pd' := e3
        subst e3
        refine ⟨ps, ms, pins, rfl, ⟨fun p hp => ?_, by rw [← hpl] at *; exact hok.mi, hok.nd, by rw [hpl]; exact hp1, hp2⟩, by omega, by omega, Nat.le_trans hml (tri_mono (by omega)), hp3, hp4⟩
        obtain ⟨a1, a2, a3, a4⟩ := hpb p hp
        exact ⟨by omega, by omega, by omega, by omega⟩

def Euc (k x y : Nat) : Prop := if k = 0 then x < 2 ^ 1900 ∧ y < 2 ^ 1900 else (y = 0 ∨ y < x) ∧ x * y * 2 ^ (k - 1) ≤ 2 ^ 1900 * 2 ^ 1900
theorem Euc.next {k x y : Nat} (h : Euc k x y) (hy : y ≠ 0) : Euc (k + 1) y (x % y) := by
  have hr : x % y < y := Nat.mod_lt _ (Nat.pos_of_ne_zero hy)
  unfold Euc at *
  rw [if_neg (by omega)]
  refine ⟨.inr hr, ?_⟩
  rw [Nat.add_sub_cancel]
  by_cases hk : k = 0
  · subst hk
    rw [if_pos rfl] at h
    rw [Nat.pow_zero, Nat.mul_one]
    exact Nat.mul_le_mul (Nat.le_of_lt h.2) (Nat.le_trans (Nat.le_of_lt hr) (Nat.le_of_lt h.2))
  · rw [if_neg hk] at h
    obtain ⟨h1, h2⟩ := h
    have hyx : y < x := h1.resolve_left hy
    have e := Nat.mod_add_div x y
    have hq : 1 ≤ x / y := Nat.div_pos (Nat.le_of_lt hyx) (Nat.pos_of_ne_zero hy)
    have hy2 : y ≤ y * (x / y) := Nat.le_mul_of_pos_right _ hq
    have h3 : 2 * (x % y) ≤ x := by omega
    refine Nat.le_trans ?_ h2
    have ek : (2 : Nat) ^ k = 2 * 2 ^ (k - 1) := by
      cases k with
      | zero => exact absurd rfl hk
      | succ m => rw [Nat.add_sub_cancel, Nat.pow_succ']
    rw [ek, ← Nat.mul_assoc]
    refine Nat.mul_le_mul_right _ ?_
    rw [Nat.mul_assoc, Nat.mul_comm (x % y) 2, Nat.mul_comm x y]
    exact Nat.mul_le_mul_left _ h3
theorem Euc.last {x y : Nat} (h : Euc 4000 x y) : y = 0 := by
  unfold Euc at h
  rw [if_neg (by decide)] at h
  obtain ⟨h1, h2⟩ := h
  by_cases hy : y = 0
  · exact hy
  · have hx := h1.resolve_left hy
    have h3 : 1 ≤ x * y := Nat.mul_pos (by omega) (Nat.pos_of_ne_zero hy)
    rw [← Nat.pow_add] at h2
    have h4 : 1 * 2 ^ (4000 - 1) ≤ x * y * 2 ^ (4000 - 1) := Nat.mul_le_mul_right _ h3
    rw [Nat.one_mul] at h4
    have h5 : (2 : Nat) ^ (1900 + 1900) < 2 ^ (4000 - 1) := Nat.pow_lt_pow_right (by decide) (by decide)
    omega
def R_div (ds : List D) (d : D) : Prop := ∃ a b : Int, ds = [.int a, .int b] ∧ Lt 1900 a ∧ Lt 1900 b ∧ d = .int (Nat.gcd a.natAbs b.natAbs : Nat)
theorem ok_u_law_divisor (T : Txt K mg) : FnOk P w K mg base CX0 1 T.f_u_law_divisor T.fd_u_law_divisor ["a", "b"] (spD K R_div) := by
  refine ok_wp T.F_u_law_divisor sc_u_law_divisor ?_ (fun cdv hcv A outer s H E hr => ⟨_, (pss_cons (ps_set (i := 0) sc_u_law_divisor.nd rfl (by first | exact Or.inl rfl | exact Or.inr rfl) (pe_callB cr_absQ (by rfl) T.z_abs (by decide +kernel) (pa_cons (pv 0) pa_nil)))
      (pss_cons (ps_set (i := 1) sc_u_law_divisor.nd rfl (by first | exact Or.inl rfl | exact Or.inr rfl) (pe_callB cr_absQ (by rfl) T.z_abs (by decide +kernel) (pa_cons (pv 1) pa_nil)))
      (pss_cons (ps_for PassesOwn.never rfl (pi_range1 (by rfl) T.z_range (pa_cons pe_int pa_nil)) (pg_name (i := 2) sc_u_law_divisor.nd rfl (by first | exact Or.inl rfl | exact Or.inr rfl))
      (pss_cons (ps_if (pt_cmpR (kx_eq (K := K) hr.units) (pv 1) pe_int (nomark _)) (pss_one (ps_ret (pv 0))) pss_nil)
      (pss_one (ps_par (i := 0) (j := 1) (by rfl) sc_u_law_divisor.nd rfl rfl (by decide) rfl rfl (pa_cons (pv 1) (pa_cons (pe_op op_mod (pe_callTy cr_intQ (by rfl) T.z_int (by decide +kernel) (pa_cons (pv 0) pa_nil)) (pv 1)) pa_nil)) (by rfl)))))
      (pss_one (ps_ret (pv 0)))))), ?_⟩)
  all_goals (try simp only [nox_K, blk_K, cx_K])
  · rintro ds d ⟨a, b, rfl, _⟩; rfl
  · rintro ds d ⟨a, b, rfl, ha, hb, rfl⟩
    refine wp_seq (wp_asg (by walk_at "ev") ?_)
    refine wp_seq (wp_asg (by walk_at "ev") ?_)
    refine wp_seq (wp_forG (xs := List.range 4000) (g := fun k => PyData.int (k : Nat))
      (fun k δ => ∃ (x y : Nat) (z : SV), δ = [.val (.int x), .val (.int y), z] ∧ Euc k x y ∧ Nat.gcd x y = Nat.gcd a.natAbs b.natAbs)
      (by repeat' first | walk_at "ev2" | (show (_ : Nat) ≤ _; decide) | fail) ⟨_, _, _, rfl, ?_, rfl⟩ ?_ ?_)
    · unfold Euc
      rw [if_pos rfl]
      exact ⟨ha, hb⟩
    · rintro k v δ ex ⟨x, y, z, rfl, eu, eg⟩
      refine wp_seq (wp_if (by walk_at "ev") (fun h => ?_) (fun h => ?_))
      · have h : (y : Int) = 0 := by
          have h : ((y : Int) == 0) = true := h
          exact eq_of_beq h
        have hy : y = 0 := by omega
        subst hy
        refine wp_ret (by walk_at "ev") ?_
        show PyData.int _ = .int _
        rw [← eg, Nat.gcd_zero_right]
      · have h : ((y : Int) == 0) = false := h
        have hy : y ≠ 0 := fun z => by
          subst z
          cases h
        refine wp_next (wp_par (by walk_at "ev" <;> (show (0 : Int) < _; omega)) ?_)
        refine ⟨y, x % y, _, rfl, eu.next hy, ?_⟩
        rw [← eg, Nat.gcd_comm x y, Nat.gcd_rec y x, Nat.gcd_comm]
    · rintro δ ⟨x, y, z, rfl, eu, eg⟩
      rw [List.length_range] at eu
      have hy := eu.last
      subst hy
      refine wp_ret (by walk_at "ev") ?_
      show PyData.int _ = .int _
      rw [← eg, Nat.gcd_zero_right]
def R_lnumber (ds : List D) (d : D) : Prop := ∃ n m : Int, ds = [.int n, .int m] ∧ m ≠ 0 ∧ Lt 1900 n ∧ Lt 1900 m ∧ d = numV (nrm n m)
theorem ok_u_law_number (T : Txt K mg) : FnOk P w K mg base CX0 2 T.f_u_law_number T.fd_u_law_number ["n", "d"] (spD K R_lnumber) := by
  refine ok_wp T.F_u_law_number sc_u_law_number ?_ (fun cdv hcv A outer s H E hr => ⟨_, (pss_cons (ps_set (i := 2) sc_u_law_number.nd rfl (by first | exact Or.inl rfl | exact Or.inr rfl) (pe_call (ok_u_law_divisor T) (hr.mono (by decide)) (by rfl) T.g_u_law_divisor T.F_u_law_divisor.kp T.b_u_law_divisor .nil pass0 (pa_cons (pv 0) (pa_cons (pv 1) pa_nil))))
      (pss_cons (ps_if (pt_cmpR op_lt (pv 1) pe_int (nomark _)) (pss_one (ps_set (i := 2) sc_u_law_number.nd rfl (by first | exact Or.inl rfl | exact Or.inr rfl) (pe_un un_neg (pv 2)))) pss_nil)
      (pss_one (ps_ret (pe_tup (pa_cons (pe_op op_fdivX (pv 0) (pv 2)) (pa_cons (pe_op op_fdivX (pv 1) (pv 2)) pa_nil))))))), ?_⟩)
  all_goals (try simp only [nox_K, blk_K, cx_K])
  · rintro ds d ⟨n, m, rfl, _⟩; rfl
  · rintro ds d ⟨n, m, rfl, hm, hn, hl, rfl⟩
    have c1 : ∀ i, CDivX i (dvs n m) := fun i => divX (dvs_ne hm) (k := 1900) (by
      unfold Lt
      rw [dvs_abs]
      exact Nat.lt_of_le_of_lt (gcd_le hm) hl)
    refine wp_seq (wp_asg (by repeat' first | walk_at "ev2" | exact ⟨_, _, rfl, hn, hl, rfl⟩ | fail) ?_)
    refine wp_seq (wp_cut (fun δ => δ = [.val (.int n), .val (.int m), .val (.int (dvs n m))]) (wp_if (by walk_at "ev") (fun h => ?_) (fun h => ?_)) ?_)
    · have h : m < 0 := of_decide_eq_true h
      refine wp_asg (by walk_at "ev") ?_
      show _ = _
      unfold dvs
      rw [if_pos h]
      rfl
    · have h : ¬ m < 0 := of_decide_eq_false h
      refine wp_next ?_
      show _ = _
      unfold dvs
      rw [if_neg h]
      rfl
    · rintro δ rfl
      refine wp_ret (by repeat' first | walk_at "ev2" | exact c1 _ | fail) ?_
      rfl
def R_lplus (ds : List D) (d : D) : Prop := ∃ a b : Int × Int, ds = [numV a, numV b] ∧ a.2 ≠ 0 ∧ b.2 ≠ 0 ∧ (Lt 1900 a.1 ∧ Lt 1900 a.2 ∧ Lt 1900 b.1 ∧ Lt 1900 b.2) ∧ Lt 1900 (a.1 * b.2 + b.1 * a.2) ∧ Lt 1900 (a.2 * b.2) ∧ d = numV (nrm (a.1 * b.2 + b.1 * a.2) (a.2 * b.2))
theorem ok_u_law_plus (T : Txt K mg) : FnOk P w K mg base CX0 3 T.f_u_law_plus T.fd_u_law_plus ["a", "b"] (spD K R_lplus) := by
  refine ok_wp T.F_u_law_plus sc_u_law_plus ?_ (fun cdv hcv A outer s H E hr => ⟨_, (pss_one (ps_ret (pe_call (ok_u_law_number T) (hr.mono (by decide)) (by rfl) T.g_u_law_number T.F_u_law_number.kp T.b_u_law_number .nil pass0 (pa_cons (pe_op op_add (pe_op op_mulX (pe_ix (kx_ix (K := K)) (pv 0) pe_int (fun _ _ => rfl)) (pe_ix (kx_ix (K := K)) (pv 1) pe_int (fun _ _ => rfl))) (pe_op op_mulX (pe_ix (kx_ix (K := K)) (pv 1) pe_int (fun _ _ => rfl)) (pe_ix (kx_ix (K := K)) (pv 0) pe_int (fun _ _ => rfl)))) (pa_cons (pe_op op_mulX (pe_ix (kx_ix (K := K)) (pv 0) pe_int (fun _ _ => rfl)) (pe_ix (kx_ix (K := K)) (pv 1) pe_int (fun _ _ => rfl))) pa_nil))))), ?_⟩)
  all_goals (try simp only [nox_K, blk_K, cx_K])
  · rintro ds d ⟨a, b, rfl, _⟩; rfl
  · rintro ds d ⟨a, b, rfl, a0, b0, ⟨a1, a2, b1, b2⟩, hn, hl, rfl⟩
    have h0 : a.2 * b.2 ≠ 0 := Int.mul_ne_zero a0 b0
    refine wp_ret (by repeat' first | walk_at "ev2" | exact mulX a1 b2 | exact mulX b1 a2 | exact mulX a2 b2 | exact ⟨_, _, rfl, h0, hn, hl, rfl⟩ | fail) ?_
    rfl
def R_ltimes (ds : List D) (d : D) : Prop := ∃ a b : Int × Int, ds = [numV a, numV b] ∧ a.2 ≠ 0 ∧ b.2 ≠ 0 ∧ (Lt 1900 a.1 ∧ Lt 1900 a.2 ∧ Lt 1900 b.1 ∧ Lt 1900 b.2) ∧ Lt 1900 (a.1 * b.1) ∧ Lt 1900 (a.2 * b.2) ∧ d = numV (nrm (a.1 * b.1) (a.2 * b.2))
theorem ok_u_law_times (T : Txt K mg) : FnOk P w K mg base CX0 3 T.f_u_law_times T.fd_u_law_times ["a", "b"] (spD K R_ltimes) := by
  refine ok_wp T.F_u_law_times sc_u_law_times ?_ (fun cdv hcv A outer s H E hr => ⟨_, (pss_one (ps_ret (pe_call (ok_u_law_number T) (hr.mono (by decide)) (by rfl) T.g_u_law_number T.F_u_law_number.kp T.b_u_law_number .nil pass0 (pa_cons (pe_op op_mulX (pe_ix (kx_ix (K := K)) (pv 0) pe_int (fun _ _ => rfl)) (pe_ix (kx_ix (K := K)) (pv 1) pe_int (fun _ _ => rfl))) (pa_cons (pe_op op_mulX (pe_ix (kx_ix (K := K)) (pv 0) pe_int (fun _ _ => rfl)) (pe_ix (kx_ix (K := K)) (pv 1) pe_int (fun _ _ => rfl))) pa_nil))))), ?_⟩)
  all_goals (try simp only [nox_K, blk_K, cx_K])
  · rintro ds d ⟨a, b, rfl, _⟩; rfl
  · rintro ds d ⟨a, b, rfl, a0, b0, ⟨a1, a2, b1, b2⟩, hn, hl, rfl⟩
    have h0 : a.2 * b.2 ≠ 0 := Int.mul_ne_zero a0 b0
    refine wp_ret (by repeat' first | walk_at "ev2" | exact mulX a1 b1 | exact mulX a2 b2 | exact ⟨_, _, rfl, h0, hn, hl, rfl⟩ | fail) ?_
    rfl

/-! ### growths of vectors -/
theorem cut_02 {a b c d : D} : cutD [a, b, c, d] none (some 2) = [a, b] := by rfl
theorem cut_24 {a b c d : D} : cutD [a, b, c, d] (some 2) none = [c, d] := by rfl
def limL : Option Int → Prop
  | none => True
  | some n => 0 ≤ n ∧ Lt 4000 n
structure FrI (ps : List (Int × Int)) (ms : List Mem) : Prop where
  pc : ∀ p ∈ ps, Lt 40 p.1 ∧ Lt 40 p.2
  mi : ∀ m ∈ ms, m.i < ps.length ∧ m.j < ps.length ∧ limL m.pull ∧ limL m.push
def VsI (vs : List (Int × Int)) : Prop := ∀ v ∈ vs, Lt 4000 v.1 ∧ Lt 4000 v.2
theorem lt_small {k : Nat} {n b : Int} (h1 : -b ≤ n) (h2 : n ≤ b) (hb : b < 2 ^ 30) (hk : 30 ≤ k := by decide) : Lt k n := by
  unfold Lt
  have : (2 : Nat) ^ 30 ≤ 2 ^ k := Nat.pow_le_pow_right (by decide) hk
  have : ((2 : Int) ^ 30) = ((2 ^ 30 : Nat) : Int) := by decide
  omega
theorem FrOk.i {c b : Int} {ps : List (Int × Int)} {ms : List Mem} {pins : List Int} (h : FrOk c b ps ms pins) (hc : c < 2 ^ 30 := by decide) (hb : b < 2 ^ 30 := by decide) : FrI ps ms :=
  ⟨fun p hp => by
    obtain ⟨a1, a2, a3, a4⟩ := h.pc p hp
    exact ⟨lt_small a1 a2 hc, lt_small a3 a4 hc⟩, fun m hm => by
    obtain ⟨a1, a2, a3, a4, _⟩ := h.mi m hm
    have lim : ∀ o, limOk b o → limL o := fun o ho => by
      cases o with
      | none => exact True.intro
      | some n => exact ⟨ho.1, lt_small (b := b) (by have := ho.1; have := ho.2; omega) ho.2 hb⟩
    exact ⟨by omega, a2, lim _ a3, lim _ a4⟩⟩
def growM (ps : List (Int × Int)) (m : Mem) (vs : List (Int × Int)) : Int :=
  ((ps.getD m.i (0, 0)).1 - (ps.getD m.j (0, 0)).1) * ((vs.getD m.i (0, 0)).1 - (vs.getD m.j (0, 0)).1) + ((ps.getD m.i (0, 0)).2 - (ps.getD m.j (0, 0)).2) * ((vs.getD m.i (0, 0)).2 - (vs.getD m.j (0, 0)).2)
theorem mem_getD {α : Type} {xs : List α} {k : Nat} {d : α} (h : k < xs.length) : xs.getD k d ∈ xs := by
  rw [getD_of (List.getElem?_eq_getElem h)]
  exact List.getElem_mem h
theorem Lt.sub' {a b c : Nat} {i j : Int} (h : Lt a i) (h' : Lt b j) (ha : a ≤ c) (hb : b ≤ c) : Lt (c + 1) (i - j) := (h.mono ha).sub (h'.mono hb)
theorem growM_lt {ps : List (Int × Int)} {ms : List Mem} {m : Mem} {vs : List (Int × Int)} (h : FrI ps ms) (hm : m ∈ ms) (hv : VsI vs) (hl : vs.length = ps.length) : Lt 4050 (growM ps m vs) := by
  obtain ⟨h1, h2, _⟩ := h.mi m hm
  obtain ⟨p1, p2⟩ := h.pc _ (mem_getD (d := (0, 0)) h1)
  obtain ⟨q1, q2⟩ := h.pc _ (mem_getD (d := (0, 0)) h2)
  obtain ⟨v1, v2⟩ := hv _ (mem_getD (xs := vs) (d := (0, 0)) (k := m.i) (by omega))
  obtain ⟨w1, w2⟩ := hv _ (mem_getD (xs := vs) (d := (0, 0)) (k := m.j) (by omega))
  have a1 : Lt 4042 _ := (p1.sub q1).mul (v1.sub w1)
  have a2 : Lt 4042 _ := (p2.sub q2).mul (v2.sub w2)
  exact (a1.add a2).mono
def R_isnum (ds : List D) (d : D) : Prop := ∃ (m v0 c0 : D) (b : Bool), ds = [m] ∧ itemD m 0 = some v0 ∧ itemD v0 0 = some c0 ∧ kitB (tyName c0) "tuple" = some b ∧ d = .bool b
theorem ok_is_of_numbers (T : Txt K mg) : FnOk P w K mg base CX0 1 T.f_is_of_numbers T.fd_is_of_numbers ["motion"] (spD K R_isnum) := by
  refine ok_wp T.F_is_of_numbers sc_is_of_numbers ?_ (fun cdv hcv A outer s H E hr => ⟨_, (pss_one (ps_ret (pe_callB (kx_isi (K := K)) (by rfl) T.z_isinstance (by decide +kernel) (pa_cons (pe_ix (kx_ix (K := K)) (pe_ix (kx_ix (K := K)) (pv 0) pe_int (fun _ _ => rfl)) pe_int (fun _ _ => rfl)) (pa_cons (pe_bltn (v := .ty "tuple") (by rfl) T.z_tuple (by decide +kernel) rfl) pa_nil))))), ?_⟩)
  all_goals (try simp only [nox_K, blk_K, cx_K])
  · rintro ds d ⟨m, v0, c0, b, rfl, _⟩; rfl
  · rintro ds d ⟨m, v0, c0, b, rfl, h1, h2, h3, rfl⟩
    refine wp_ret (by repeat' first | walk_at "ev1" | exact h1 | exact h2 | exact h3 | rfl | fail) ?_
    rfl
theorem isnum_vec {vs : List (Int × Int)} (h : 0 < vs.length) : R_isnum [.tuple (vs.map numV)] (.bool false) :=
  ⟨_, numV (vs.getD 0 (0, 0)), .int (vs.getD 0 (0, 0)).1, false, rfl, at_tup (c := 0) h, rfl, by rfl, rfl⟩
structure GrA where
  ps : List (Int × Int)
  ms : List Mem
  pins : List Int
  vs : List (Int × Int)
  k : Nat
structure GrA.Ok (g : GrA) : Prop where
  fi : FrI g.ps g.ms
  vi : VsI g.vs
  vl : g.vs.length = g.ps.length
  kl : g.k < g.ms.length
def GrA.m (g : GrA) : Mem := g.ms.getD g.k default

/-! ### the program's numbers -/
def R_number (ds : List D) (d : D) : Prop := ∃ n m : Int, ds = [.int n, .int m] ∧ m ≠ 0 ∧ Lt 8000 m ∧ d = numV (nrm n m)
theorem dvs_lt {n m : Int} {k : Nat} (h : m ≠ 0) (hl : Lt k m) : Lt k (dvs n m) := by
  unfold Lt
  rw [dvs_abs]
  exact Nat.lt_of_le_of_lt (gcd_le h) hl
theorem ok_number (T : Txt K mg) : FnOk P w K mg base CX0 1 T.f_number T.fd_number ["n", "d"] (spD K R_number) := by
  refine ok_wp T.F_number sc_number ?_ (fun cdv hcv A outer s H E hr => ⟨_, (pss_cons (ps_set (i := 2) sc_number.nd rfl (by first | exact Or.inl rfl | exact Or.inr rfl) (pe_callBfun cr_gcd (by rfl) T.i_gcd (pa_cons (pv 0) (pa_cons (pv 1) pa_nil))))
      (pss_cons (ps_if (pt_cmpR op_lt (pv 1) pe_int (nomark _)) (pss_one (ps_set (i := 2) sc_number.nd rfl (by first | exact Or.inl rfl | exact Or.inr rfl) (pe_un un_neg (pv 2)))) pss_nil)
      (pss_one (ps_ret (pe_tup (pa_cons (pe_op op_fdivX (pv 0) (pv 2)) (pa_cons (pe_op op_fdivX (pv 1) (pv 2)) pa_nil))))))), ?_⟩)
  all_goals (try simp only [nox_K, blk_K, cx_K])
  · rintro ds d ⟨n, m, rfl, _⟩; rfl
  · rintro ds d ⟨n, m, rfl, hm, hl, rfl⟩
    have c1 : ∀ i, CDivX i (dvs n m) := fun i => divX (dvs_ne hm) (dvs_lt hm hl)
    refine wp_seq (wp_asg (by walk_at "ev") ?_)
    refine wp_seq (wp_cut (fun δ => δ = [.val (.int n), .val (.int m), .val (.int (dvs n m))]) (wp_if (by walk_at "ev") (fun h => ?_) (fun h => ?_)) ?_)
    · have h : m < 0 := of_decide_eq_true h
      refine wp_asg (by walk_at "ev") ?_
      show _ = _
      unfold dvs
      rw [if_pos h]
      rfl
    · have h : ¬ m < 0 := of_decide_eq_false h
      refine wp_next ?_
      show _ = _
      unfold dvs
      rw [if_neg h]
      rfl
    · rintro δ rfl
      refine wp_ret (by repeat' first | walk_at "ev2" | exact c1 _ | fail) ?_
      rfl

def R_plus (ds : List D) (d : D) : Prop := ∃ a b : Int × Int, ds = [numV a, numV b] ∧ Sm 3900 a ∧ Sm 3900 b ∧ d = numV (nrm (a.1 * b.2 + b.1 * a.2) (a.2 * b.2))
theorem ok_plus (T : Txt K mg) : FnOk P w K mg base CX0 2 T.f_plus T.fd_plus ["a", "b"] (spD K R_plus) := by
  refine ok_wp T.F_plus sc_plus ?_ (fun cdv hcv A outer s H E hr => ⟨_, (pss_one (ps_ret (pe_call (ok_number T) (hr.mono (by decide)) (by rfl) T.g_number T.F_number.kp T.b_number .nil pass0 (pa_cons (pe_op op_add (pe_op op_mulX (pe_ix (kx_ix (K := K)) (pv 0) pe_int (fun _ _ => rfl)) (pe_ix (kx_ix (K := K)) (pv 1) pe_int (fun _ _ => rfl))) (pe_op op_mulX (pe_ix (kx_ix (K := K)) (pv 1) pe_int (fun _ _ => rfl)) (pe_ix (kx_ix (K := K)) (pv 0) pe_int (fun _ _ => rfl)))) (pa_cons (pe_op op_mulX (pe_ix (kx_ix (K := K)) (pv 0) pe_int (fun _ _ => rfl)) (pe_ix (kx_ix (K := K)) (pv 1) pe_int (fun _ _ => rfl))) pa_nil))))), ?_⟩)
  all_goals (try simp only [nox_K, blk_K, cx_K])
  · rintro ds d ⟨a, b, rfl, _⟩; rfl
  · rintro ds d ⟨a, b, rfl, ⟨a1, a2, a0⟩, ⟨b1, b2, b0⟩, rfl⟩
    have h0 : a.2 * b.2 ≠ 0 := Int.mul_ne_zero a0 b0
    have hl : Lt 8000 (a.2 * b.2) := (a2.mul b2).mono
    refine wp_ret (by repeat' first | walk_at "ev2" | exact mulX a1 b2 | exact mulX b1 a2 | exact mulX a2 b2 | exact ⟨_, _, rfl, h0, hl, rfl⟩ | fail) ?_
    rfl
def R_minus (ds : List D) (d : D) : Prop := ∃ a b : Int × Int, ds = [numV a, numV b] ∧ Sm 3900 a ∧ Sm 3900 b ∧ d = numV (nrm (a.1 * b.2 - b.1 * a.2) (a.2 * b.2))
theorem ok_minus (T : Txt K mg) : FnOk P w K mg base CX0 2 T.f_minus T.fd_minus ["a", "b"] (spD K R_minus) := by
  refine ok_wp T.F_minus sc_minus ?_ (fun cdv hcv A outer s H E hr => ⟨_, (pss_one (ps_ret (pe_call (ok_number T) (hr.mono (by decide)) (by rfl) T.g_number T.F_number.kp T.b_number .nil pass0 (pa_cons (pe_op op_sub (pe_op op_mulX (pe_ix (kx_ix (K := K)) (pv 0) pe_int (fun _ _ => rfl)) (pe_ix (kx_ix (K := K)) (pv 1) pe_int (fun _ _ => rfl))) (pe_op op_mulX (pe_ix (kx_ix (K := K)) (pv 1) pe_int (fun _ _ => rfl)) (pe_ix (kx_ix (K := K)) (pv 0) pe_int (fun _ _ => rfl)))) (pa_cons (pe_op op_mulX (pe_ix (kx_ix (K := K)) (pv 0) pe_int (fun _ _ => rfl)) (pe_ix (kx_ix (K := K)) (pv 1) pe_int (fun _ _ => rfl))) pa_nil))))), ?_⟩)
  all_goals (try simp only [nox_K, blk_K, cx_K])
  · rintro ds d ⟨a, b, rfl, _⟩; rfl
  · rintro ds d ⟨a, b, rfl, ⟨a1, a2, a0⟩, ⟨b1, b2, b0⟩, rfl⟩
    have h0 : a.2 * b.2 ≠ 0 := Int.mul_ne_zero a0 b0
    have hl : Lt 8000 (a.2 * b.2) := (a2.mul b2).mono
    refine wp_ret (by repeat' first | walk_at "ev2" | exact mulX a1 b2 | exact mulX b1 a2 | exact mulX a2 b2 | exact ⟨_, _, rfl, h0, hl, rfl⟩ | fail) ?_
    rfl
def R_times (ds : List D) (d : D) : Prop := ∃ a b : Int × Int, ds = [numV a, numV b] ∧ Sm 3900 a ∧ Sm 3900 b ∧ d = numV (nrm (a.1 * b.1) (a.2 * b.2))
theorem ok_times (T : Txt K mg) : FnOk P w K mg base CX0 2 T.f_times T.fd_times ["a", "b"] (spD K R_times) := by
  refine ok_wp T.F_times sc_times ?_ (fun cdv hcv A outer s H E hr => ⟨_, (pss_one (ps_ret (pe_call (ok_number T) (hr.mono (by decide)) (by rfl) T.g_number T.F_number.kp T.b_number .nil pass0 (pa_cons (pe_op op_mulX (pe_ix (kx_ix (K := K)) (pv 0) pe_int (fun _ _ => rfl)) (pe_ix (kx_ix (K := K)) (pv 1) pe_int (fun _ _ => rfl))) (pa_cons (pe_op op_mulX (pe_ix (kx_ix (K := K)) (pv 0) pe_int (fun _ _ => rfl)) (pe_ix (kx_ix (K := K)) (pv 1) pe_int (fun _ _ => rfl))) pa_nil))))), ?_⟩)
  all_goals (try simp only [nox_K, blk_K, cx_K])
  · rintro ds d ⟨a, b, rfl, _⟩; rfl
  · rintro ds d ⟨a, b, rfl, ⟨a1, a2, a0⟩, ⟨b1, b2, b0⟩, rfl⟩
    have h0 : a.2 * b.2 ≠ 0 := Int.mul_ne_zero a0 b0
    have hl : Lt 8000 (a.2 * b.2) := (a2.mul b2).mono
    refine wp_ret (by repeat' first | walk_at "ev2" | exact mulX a1 b1 | exact mulX a2 b2 | exact ⟨_, _, rfl, h0, hl, rfl⟩ | fail) ?_
    rfl

theorem fdiv_exact {q c : Int} (h : c ≠ 0) : (q * c).fdiv c = q := Int.mul_fdiv_cancel q h
theorem dvs_scale {x y g : Int} (hy : y ≠ 0) (hg : g ≠ 0) : dvs (x * g) (y * g) = dvs x y * g := by
  have e : Nat.gcd (x * g).natAbs (y * g).natAbs = Nat.gcd x.natAbs y.natAbs * g.natAbs := by
    rw [Int.natAbs_mul, Int.natAbs_mul, Nat.gcd_mul_right]
  have ec : ((Nat.gcd x.natAbs y.natAbs * g.natAbs : Nat) : Int) = (Nat.gcd x.natAbs y.natAbs : Nat) * (g.natAbs : Int) := Int.natCast_mul _ _
  unfold dvs
  rw [e, ec]
  by_cases hg2 : g < 0
  · have eg : (g.natAbs : Int) = -g := by omega
    rw [eg]
    by_cases hy2 : y < 0
    · have h3 : ¬ y * g < 0 := by
        have := Int.mul_nonneg_of_nonpos_of_nonpos (a := y) (b := g) (by omega) (by omega)
        omega
      rw [if_neg h3, if_pos hy2, Int.neg_mul, Int.mul_neg]
    · have h3 : y * g < 0 := by
        have := Int.mul_neg_of_pos_of_neg (a := y) (b := g) (by omega) hg2
        omega
      rw [if_pos h3, if_neg hy2, Int.mul_neg, Int.neg_neg]
  · have eg : (g.natAbs : Int) = g := by omega
    rw [eg]
    by_cases hy2 : y < 0
    · have h3 : y * g < 0 := Int.mul_neg_of_neg_of_pos hy2 (by omega)
      rw [if_pos h3, if_pos hy2, Int.neg_mul]
    · have h3 : ¬ y * g < 0 := by
        have := Int.mul_nonneg (a := y) (b := g) (by omega) (by omega)
        omega
      rw [if_neg h3, if_neg hy2]
theorem nrm_scale {x y g : Int} (hy : y ≠ 0) (hg : g ≠ 0) : nrm (x * g) (y * g) = nrm x y := by
  have hd := dvs_ne (n := x) hy
  have hdg : dvs x y * g ≠ 0 := Int.mul_ne_zero hd hg
  have e1 : x * g = (nrm x y).1 * (dvs x y * g) := by rw [← Int.mul_assoc, nrm_mul1]
  have e2 : y * g = (nrm x y).2 * (dvs x y * g) := by rw [← Int.mul_assoc, nrm_mul2]
  have h1 : (x * g).fdiv (dvs x y * g) = (nrm x y).1 := by rw [e1, fdiv_exact hdg]
  have h2 : (y * g).fdiv (dvs x y * g) = (nrm x y).2 := by rw [e2, fdiv_exact hdg]
  show ((x * g).fdiv (dvs (x * g) (y * g)), (y * g).fdiv (dvs (x * g) (y * g))) = _
  rw [dvs_scale hy hg, h1, h2]
theorem nrm_le1 (n m : Int) (h : m ≠ 0) : (nrm n m).1.natAbs ≤ n.natAbs := by
  have e := congrArg Int.natAbs (nrm_mul1 n m)
  rw [Int.natAbs_mul] at e
  have h2 := Nat.le_mul_of_pos_right (nrm n m).1.natAbs (Int.natAbs_pos.mpr (dvs_ne (n := n) h))
  omega
theorem nrm_le2 (n m : Int) (h : m ≠ 0) : (nrm n m).2.natAbs ≤ m.natAbs := by
  have e := congrArg Int.natAbs (nrm_mul2 n m)
  rw [Int.natAbs_mul] at e
  have h2 := Nat.le_mul_of_pos_right (nrm n m).2.natAbs (Int.natAbs_pos.mpr (dvs_ne (n := n) h))
  omega
theorem nrm_sm {k : Nat} {n m : Int} (h : m ≠ 0) (hn : Lt k n) (hm : Lt k m) : Sm k (nrm n m) :=
  ⟨hn.le (nrm_le1 n m h), hm.le (nrm_le2 n m h), by have := nrm_pos (n := n) h; omega⟩

/-! ### numbers as rationals -/
def ratP (r : Rat) : Int × Int := (r.num, (r.den : Int))
def qV (r : Rat) : D := numV (ratP r)
theorem den_ne (r : Rat) : (r.den : Int) ≠ 0 := by have := r.den_nz; omega
theorem rat_nd (r : Rat) : (r.num : Rat) / ((r.den : Int) : Rat) = r := by rw [← Rat.divInt_eq_div, Rat.num_divInt_den]
theorem rat_ne {m : Int} (h : m ≠ 0) : (m : Rat) ≠ 0 := fun z => h (Rat.intCast_eq_zero_iff.mp z)
theorem rat_nd' (r : Rat) : (r.num : Rat) = r * ((r.den : Int) : Rat) := by
  have h := rat_nd r
  have hd := rat_ne (den_ne r)
  generalize ((r.den : Int) : Rat) = d at *
  generalize (r.num : Rat) = n at *
  rw [← h]; grind
theorem nrm_self (r : Rat) : nrm r.num (r.den : Int) = ratP r := by
  have h1 : dvs r.num (r.den : Int) = 1 := by
    unfold dvs
    rw [if_neg (by omega)]
    have : Nat.gcd r.num.natAbs r.den = 1 := r.reduced
    rw [Int.natAbs_natCast, this]; rfl
  unfold nrm ratP
  rw [h1, Int.fdiv_one, Int.fdiv_one]
theorem nrm_rat {n m : Int} (h : m ≠ 0) : nrm n m = ratP ((n : Rat) / (m : Rat)) := by
  have hd := den_ne ((n : Rat) / (m : Rat))
  have e : n * (((n : Rat) / (m : Rat)).den : Int) = ((n : Rat) / (m : Rat)).num * m := by
    have e2 : ((n * (((n : Rat) / (m : Rat)).den : Int) : Int) : Rat) = ((((n : Rat) / (m : Rat)).num * m : Int) : Rat) := by
      rw [Rat.intCast_mul, Rat.intCast_mul, rat_nd']
      have hm := rat_ne h
      generalize (((((n : Rat) / (m : Rat)).den : Int)) : Rat) = d at *
      generalize (m : Rat) = m at *
      generalize (n : Rat) = n at *
      grind
    exact Rat.intCast_inj.mp e2
  have s1 := nrm_scale (x := n) (y := m) (g := (((n : Rat) / (m : Rat)).den : Int)) h hd
  rw [e, Int.mul_comm m] at s1
  rw [nrm_scale hd h] at s1
  rw [← s1, nrm_self]
def Sz (k : Nat) (r : Rat) : Prop := Lt k r.num ∧ Lt k (r.den : Int)
theorem Sz.sm {k : Nat} {r : Rat} (h : Sz k r) : Sm k (ratP r) := ⟨h.1, h.2, den_ne r⟩
theorem Sz.mono {a b : Nat} {r : Rat} (h : Sz a r) (e : a ≤ b := by decide) : Sz b r := ⟨h.1.mono e, h.2.mono e⟩
theorem Sz.of {k : Nat} {n m : Int} (h : m ≠ 0) (hn : Lt k n) (hm : Lt k m) : Sz k ((n : Rat) / (m : Rat)) := by
  obtain ⟨a, b, _⟩ := nrm_sm h hn hm
  rw [nrm_rat h] at a b
  exact ⟨a, b⟩
theorem cast_add (a b : Int) : ((a + b : Int) : Rat) = a + b := Rat.intCast_add a b
theorem q_add (r s : Rat) : r + s = ((r.num * (s.den : Int) + s.num * (r.den : Int) : Int) : Rat) / (((r.den : Int) * (s.den : Int) : Int) : Rat) := by
  rw [cast_add, Rat.intCast_mul, Rat.intCast_mul, Rat.intCast_mul, rat_nd', rat_nd']
  have h1 := rat_ne (den_ne r)
  have h2 := rat_ne (den_ne s)
  generalize ((r.den : Int) : Rat) = d at *
  generalize ((s.den : Int) : Rat) = e at *
  grind
theorem q_sub (r s : Rat) : r - s = ((r.num * (s.den : Int) - s.num * (r.den : Int) : Int) : Rat) / (((r.den : Int) * (s.den : Int) : Int) : Rat) := by
  rw [Rat.intCast_sub, Rat.intCast_mul, Rat.intCast_mul, Rat.intCast_mul, rat_nd', rat_nd']
  have h1 := rat_ne (den_ne r)
  have h2 := rat_ne (den_ne s)
  generalize ((r.den : Int) : Rat) = d at *
  generalize ((s.den : Int) : Rat) = e at *
  grind
theorem q_mul (r s : Rat) : r * s = ((r.num * s.num : Int) : Rat) / (((r.den : Int) * (s.den : Int) : Int) : Rat) := by
  rw [Rat.intCast_mul, Rat.intCast_mul, rat_nd', rat_nd']
  have h1 := rat_ne (den_ne r)
  have h2 := rat_ne (den_ne s)
  generalize ((r.den : Int) : Rat) = d at *
  generalize ((s.den : Int) : Rat) = e at *
  grind
theorem mul_den (r s : Rat) : (r.den : Int) * (s.den : Int) ≠ 0 := Int.mul_ne_zero (den_ne r) (den_ne s)
theorem nrm_add (r s : Rat) : nrm (r.num * (s.den : Int) + s.num * (r.den : Int)) ((r.den : Int) * (s.den : Int)) = ratP (r + s) := by rw [nrm_rat (mul_den r s), ← q_add]
theorem nrm_sub (r s : Rat) : nrm (r.num * (s.den : Int) - s.num * (r.den : Int)) ((r.den : Int) * (s.den : Int)) = ratP (r - s) := by rw [nrm_rat (mul_den r s), ← q_sub]
theorem nrm_mul (r s : Rat) : nrm (r.num * s.num) ((r.den : Int) * (s.den : Int)) = ratP (r * s) := by rw [nrm_rat (mul_den r s), ← q_mul]
theorem Sz.add {a b : Nat} {r s : Rat} (h : Sz a r) (h' : Sz b s) : Sz (a + b + 1) (r + s) := by
  rw [q_add]
  exact Sz.of (mul_den r s) (Lt.add (h.1.mul h'.2) ((h'.1.mul h.2).mono (by omega))) ((h.2.mul h'.2).mono (by omega))
theorem Sz.sub {a b : Nat} {r s : Rat} (h : Sz a r) (h' : Sz b s) : Sz (a + b + 1) (r - s) := by
  rw [q_sub]
  exact Sz.of (mul_den r s) (Lt.sub (h.1.mul h'.2) ((h'.1.mul h.2).mono (by omega))) ((h.2.mul h'.2).mono (by omega))
theorem Sz.mul {a b : Nat} {r s : Rat} (h : Sz a r) (h' : Sz b s) : Sz (a + b) (r * s) := by
  rw [q_mul]
  exact Sz.of (mul_den r s) (h.1.mul h'.1) (h.2.mul h'.2)
theorem Sz.int {k : Nat} {n : Int} (h : Lt k n) (hk : 1 ≤ k := by decide) : Sz k (n : Rat) := by
  refine ⟨by rw [Rat.num_intCast]; exact h, ?_⟩
  rw [Rat.den_intCast]
  unfold Lt
  have : (2 : Nat) ^ 1 ≤ 2 ^ k := Nat.pow_le_pow_right (by decide) hk
  show 1 < 2 ^ k
  omega
theorem qV_int (n : Int) : numV (n, 1) = qV (n : Rat) := by
  unfold qV ratP
  rw [Rat.num_intCast, Rat.den_intCast]; rfl
theorem qV_zero : numV (0, 1) = qV 0 := qV_int 0
theorem qV_nrm {n m : Int} (h : m ≠ 0) : numV (nrm n m) = qV ((n : Rat) / (m : Rat)) := by rw [nrm_rat h]; rfl
theorem rat_ext {r s : Rat} (h : ratP r = ratP s) : r = s := by
  unfold ratP at h
  injection h with h1 h2
  rw [← rat_nd r, ← rat_nd s, h1, h2]
theorem eqv_q {r s : Rat} : PyData.eqv (qV r) (qV s) = decide (r = s) := by
  unfold qV
  rw [eqv_num]
  by_cases h : r = s
  · rw [h]; simp
  · rw [decide_eq_false h, decide_eq_false fun z => h (rat_ext z)]
theorem R_plus_q {r s : Rat} (h : Sz 3900 r) (h' : Sz 3900 s) : R_plus [qV r, qV s] (qV (r + s)) := ⟨ratP r, ratP s, rfl, h.sm, h'.sm, by rw [qV, ← nrm_add]; rfl⟩
theorem R_minus_q {r s : Rat} (h : Sz 3900 r) (h' : Sz 3900 s) : R_minus [qV r, qV s] (qV (r - s)) := ⟨ratP r, ratP s, rfl, h.sm, h'.sm, by rw [qV, ← nrm_sub]; rfl⟩
theorem R_times_q {r s : Rat} (h : Sz 3900 r) (h' : Sz 3900 s) : R_times [qV r, qV s] (qV (r * s)) := ⟨ratP r, ratP s, rfl, h.sm, h'.sm, by rw [qV, ← nrm_mul]; rfl⟩
/-- sums -/
def qsum (rs : List Rat) : Rat := rs.foldl (· + ·) 0
theorem qsum_take {rs : List Rat} {k : Nat} {r : Rat} (h : rs[k]? = some r) : qsum (rs.take (k + 1)) = qsum (rs.take k) + r := by
  unfold qsum
  rw [List.take_add_one, h, List.foldl_append]; rfl
theorem qsum_sz {rs : List Rat} {b : Nat} (h : ∀ r ∈ rs, Sz b r) : ∀ k, k ≤ rs.length → Sz ((b + 1) * k + 1) (qsum (rs.take k))
  | 0, _ => by
    rw [List.take_zero, Nat.mul_zero]
    exact Sz.int (n := 0) (by unfold Lt; decide)
  | k + 1, hk => by
    have hk' : k < rs.length := hk
    rw [qsum_take (List.getElem?_eq_getElem hk')]
    have := (qsum_sz h k (by omega)).add (h _ (List.getElem_mem hk'))
    exact this.mono (by rw [Nat.mul_add, Nat.mul_one]; omega)

/-! a pair of ints times a pair of numbers -/
def R_dot (ds : List D) (d : D) : Prop := ∃ (x y : Int) (a b : Rat), ds = [.tuple [.int x, .int y], .tuple [qV a, qV b]] ∧ Lt 60 x ∧ Lt 60 y ∧ Sz 1900 a ∧ Sz 1900 b ∧ d = qV ((x : Rat) * a + (y : Rat) * b)
theorem ok_dotted (T : Txt K mg) : FnOk P w K mg base CX0 3 T.f_dotted T.fd_dotted ["vector", "pair"] (spD K R_dot) := by
  refine ok_wp T.F_dotted sc_dotted ?_ (fun cdv hcv A outer s H E hr => ⟨_, (pss_one (ps_ret (pe_call (ok_plus T) (hr.mono (by decide)) (by rfl) T.g_plus T.F_plus.kp T.b_plus .nil pass0 (pa_cons (pe_call (ok_times T) (hr.mono (by decide)) (by rfl) T.g_times T.F_times.kp T.b_times .nil pass0 (pa_cons (pe_tup (pa_cons (pe_ix (kx_ix (K := K)) (pv 0) pe_int (fun _ _ => rfl)) (pa_cons pe_int pa_nil))) (pa_cons (pe_ix (kx_ix (K := K)) (pv 1) pe_int (fun _ _ => rfl)) pa_nil))) (pa_cons (pe_call (ok_times T) (hr.mono (by decide)) (by rfl) T.g_times T.F_times.kp T.b_times .nil pass0 (pa_cons (pe_tup (pa_cons (pe_ix (kx_ix (K := K)) (pv 0) pe_int (fun _ _ => rfl)) (pa_cons pe_int pa_nil))) (pa_cons (pe_ix (kx_ix (K := K)) (pv 1) pe_int (fun _ _ => rfl)) pa_nil))) pa_nil))))), ?_⟩)
  all_goals (try simp only [nox_K, blk_K, cx_K])
  · rintro ds d ⟨x, y, a, b, rfl, _⟩; rfl
  · rintro ds d ⟨x, y, a, b, rfl, hx, hy, ha, hb, rfl⟩
    have t1 := R_times_q ((Sz.int hx).mono (b := 3900)) (ha.mono (b := 3900) (by omega))
    have t2 := R_times_q ((Sz.int hy).mono (b := 3900)) (hb.mono (b := 3900) (by omega))
    have pl := R_plus_q (((Sz.int hx).mul ha).mono (b := 3900) (by omega)) (((Sz.int hy).mul hb).mono (b := 3900) (by omega))
    rw [← qV_int] at t1 t2
    have i0 : itemD (.tuple [.int x, .int y]) 0 = some (.int x) := atI_nat (xs := [_, _]) (j := 0) rfl
    have i1 : itemD (.tuple [.int x, .int y]) 1 = some (.int y) := atI_nat (xs := [_, _]) (j := 1) rfl
    have j0 : itemD (.tuple [qV a, qV b]) 0 = some (qV a) := atI_nat (xs := [_, _]) (j := 0) rfl
    have j1 : itemD (.tuple [qV a, qV b]) 1 = some (qV b) := atI_nat (xs := [_, _]) (j := 1) rfl
    exact wp_ret (by repeat' first | exact t1 | exact t2 | exact i0 | exact i1 | exact j0 | exact j1 | walk_at "ev2" | exact pl | fail) rfl

def R_growth (ds : List D) (d : D) : Prop := ∃ g : GrA, ds = [frameV g.ps g.ms g.pins, .int (g.k : Nat), .tuple (g.vs.map numV)] ∧ g.Ok ∧ d = .int (growM g.ps g.m g.vs)

/-! ### motions of numbers -/
def wV (w : Rat × Rat) : D := .tuple [qV w.1, qV w.2]
def cmp {α : Type} (p : α × α) (t : Nat) : α := if t = 0 then p.1 else p.2
theorem at_num {p : Int × Int} {t : Nat} (h : t < 2) : itemD (numV p) (t : Nat) = some (.int (cmp p t)) := by
  rcases (show t = 0 ∨ t = 1 by omega) with rfl | rfl <;> rfl
theorem at_wV {p : Rat × Rat} {t : Nat} (h : t < 2) : itemD (wV p) (t : Nat) = some (qV (cmp p t)) := by
  rcases (show t = 0 ∨ t = 1 by omega) with rfl | rfl <;> rfl
def growQ (ps : List (Int × Int)) (m : Mem) (ws : List (Rat × Rat)) : Rat :=
  (((ps.getD m.i (0, 0)).1 - (ps.getD m.j (0, 0)).1 : Int) : Rat) * ((ws.getD m.i (0, 0)).1 - (ws.getD m.j (0, 0)).1) + (((ps.getD m.i (0, 0)).2 - (ps.getD m.j (0, 0)).2 : Int) : Rat) * ((ws.getD m.i (0, 0)).2 - (ws.getD m.j (0, 0)).2)
def WsI (b : Nat) (ws : List (Rat × Rat)) : Prop := ∀ v ∈ ws, Sz b v.1 ∧ Sz b v.2
theorem isnum_rat {ws : List (Rat × Rat)} (h : 0 < ws.length) : R_isnum [.tuple (ws.map wV)] (.bool true) :=
  ⟨_, wV (ws.getD 0 (0, 0)), qV (ws.getD 0 (0, 0)).1, true, rfl, at_tup (c := 0) h, rfl, by rfl, rfl⟩
structure GrQ where
  ps : List (Int × Int)
  ms : List Mem
  pins : List Int
  ws : List (Rat × Rat)
  k : Nat
structure GrQ.Ok (g : GrQ) : Prop where
  fi : FrI g.ps g.ms
  vi : WsI 200 g.ws
  vl : g.ws.length = g.ps.length
  kl : g.k < g.ms.length
def GrQ.m (g : GrQ) : Mem := g.ms.getD g.k default
theorem qV_neg (r : Rat) : numV (-r.num, (r.den : Int)) = qV (-r) := rfl
theorem qV_tup (r : Rat) : qV r = .tuple [.int r.num, .int (r.den : Int)] := rfl
theorem growQ_sz {ps : List (Int × Int)} {ms : List Mem} {m : Mem} {ws : List (Rat × Rat)} (h : FrI ps ms) (hm : m ∈ ms) (hv : WsI 200 ws) (hl : ws.length = ps.length) : Sz 900 (growQ ps m ws) := by
  obtain ⟨h1, h2, _⟩ := h.mi m hm
  obtain ⟨p1, p2⟩ := h.pc _ (mem_getD (d := (0, 0)) h1)
  obtain ⟨q1, q2⟩ := h.pc _ (mem_getD (d := (0, 0)) h2)
  obtain ⟨v1, v2⟩ := hv _ (mem_getD (xs := ws) (d := (0, 0)) (k := m.i) (by omega))
  obtain ⟨w1, w2⟩ := hv _ (mem_getD (xs := ws) (d := (0, 0)) (k := m.j) (by omega))
  exact (((Sz.int (p1.sub q1)).mul (v1.sub w1)).add ((Sz.int (p2.sub q2)).mul (v2.sub w2))).mono
def R_growthQ (ds : List D) (d : D) : Prop := ∃ g : GrQ, ds = [frameV g.ps g.ms g.pins, .int (g.k : Nat), .tuple (g.ws.map wV)] ∧ g.Ok ∧ d = qV (growQ g.ps g.m g.ws)
def R_growthB (ds : List D) (d : D) : Prop := R_growth ds d ∨ R_growthQ ds d

theorem ok_growth (T : Txt K mg) : FnOk P w K mg base CX0 4 T.f_growth T.fd_growth ["frame", "k", "motion"] (spD K R_growthB) := by
  refine ok_wp T.F_growth sc_growth ?_ (fun cdv hcv A outer s H E hr => ⟨_, (pss_cons (ps_asg (pv 0) (kpg_tup (K := K) (n := 3) rfl (pgs_cons (pg_name (i := 3) sc_growth.nd rfl (by first | exact Or.inl rfl | exact Or.inr rfl)) (pgs_cons (pg_name (i := 4) sc_growth.nd rfl (by first | exact Or.inl rfl | exact Or.inr rfl)) (pgs_cons (pg_name (i := 5) sc_growth.nd rfl (by first | exact Or.inl rfl | exact Or.inr rfl)) pgs_nil)))))
      (pss_cons (ps_asg (pe_slice (kx_slB (K := K)) (pe_ix (kx_ix (K := K)) (pv 4) (pv 1) (fun _ _ => rfl)) po_none (po_some pe_int)) (kpg_tup (K := K) (n := 2) rfl (pgs_cons (pg_name (i := 6) sc_growth.nd rfl (by first | exact Or.inl rfl | exact Or.inr rfl)) (pgs_cons (pg_name (i := 7) sc_growth.nd rfl (by first | exact Or.inl rfl | exact Or.inr rfl)) pgs_nil))))
      (pss_cons (ps_set (i := 8) sc_growth.nd rfl (by first | exact Or.inl rfl | exact Or.inr rfl) (pe_op op_sub (pe_ix (kx_ix (K := K)) (pe_ix (kx_ix (K := K)) (pv 3) (pv 6) (fun _ _ => rfl)) pe_int (fun _ _ => rfl)) (pe_ix (kx_ix (K := K)) (pe_ix (kx_ix (K := K)) (pv 3) (pv 7) (fun _ _ => rfl)) pe_int (fun _ _ => rfl))))
      (pss_cons (ps_set (i := 9) sc_growth.nd rfl (by first | exact Or.inl rfl | exact Or.inr rfl) (pe_op op_sub (pe_ix (kx_ix (K := K)) (pe_ix (kx_ix (K := K)) (pv 3) (pv 6) (fun _ _ => rfl)) pe_int (fun _ _ => rfl)) (pe_ix (kx_ix (K := K)) (pe_ix (kx_ix (K := K)) (pv 3) (pv 7) (fun _ _ => rfl)) pe_int (fun _ _ => rfl))))
      (pss_cons (ps_set (i := 10) sc_growth.nd rfl (by first | exact Or.inl rfl | exact Or.inr rfl) (pe_ix (kx_ix (K := K)) (pv 2) (pv 6) (fun _ _ => rfl)))
      (pss_cons (ps_set (i := 11) sc_growth.nd rfl (by first | exact Or.inl rfl | exact Or.inr rfl) (pe_ix (kx_ix (K := K)) (pv 2) (pv 7) (fun _ _ => rfl)))
      (pss_cons (ps_if (pt_val (pe_call (ok_is_of_numbers T) (hr.mono (by decide)) (by rfl) T.g_is_of_numbers T.F_is_of_numbers.kp T.b_is_of_numbers .nil pass0 (pa_cons (pv 2) pa_nil))) (pss_one (ps_ret (pe_call (ok_dotted T) (hr.mono (by decide)) (by rfl) T.g_dotted T.F_dotted.kp T.b_dotted .nil pass0 (pa_cons (pe_tup (pa_cons (pv 8) (pa_cons (pv 9) pa_nil))) (pa_cons (pe_tup (pa_cons (pe_call (ok_minus T) (hr.mono (by decide)) (by rfl) T.g_minus T.F_minus.kp T.b_minus .nil pass0 (pa_cons (pe_ix (kx_ix (K := K)) (pv 10) pe_int (fun _ _ => rfl)) (pa_cons (pe_ix (kx_ix (K := K)) (pv 11) pe_int (fun _ _ => rfl)) pa_nil))) (pa_cons (pe_call (ok_minus T) (hr.mono (by decide)) (by rfl) T.g_minus T.F_minus.kp T.b_minus .nil pass0 (pa_cons (pe_ix (kx_ix (K := K)) (pv 10) pe_int (fun _ _ => rfl)) (pa_cons (pe_ix (kx_ix (K := K)) (pv 11) pe_int (fun _ _ => rfl)) pa_nil))) pa_nil))) pa_nil))))) pss_nil)
      (pss_one (ps_ret (pe_op op_add (pe_op op_mulX (pv 8) (pe_op op_sub (pe_ix (kx_ix (K := K)) (pv 10) pe_int (fun _ _ => rfl)) (pe_ix (kx_ix (K := K)) (pv 11) pe_int (fun _ _ => rfl)))) (pe_op op_mulX (pv 9) (pe_op op_sub (pe_ix (kx_ix (K := K)) (pv 10) pe_int (fun _ _ => rfl)) (pe_ix (kx_ix (K := K)) (pv 11) pe_int (fun _ _ => rfl)))))))))))))), ?_⟩)
  all_goals (try simp only [nox_K, blk_K, cx_K])
  · rintro ds d (⟨g, rfl, _⟩ | ⟨g, rfl, _⟩) <;> rfl
  · rintro ds d (⟨⟨ps, ms, pins, vs, k⟩, rfl, ⟨fi, vi, vl, kl⟩, rfl⟩ | ⟨⟨ps, ms, pins, ws, k⟩, rfl, ⟨fi, vi, vl, kl⟩, rfl⟩)
    rotate_left
    focus
      simp only at fi vi vl kl
      have hm : ms.getD k default ∈ ms := mem_getD kl
      have at1 : itemD (.tuple (ms.map memV)) (k : Nat) = some (memV (ms.getD k default)) := at_tup kl
      show WP K _ _ _
      simp only [GrQ.m]
      generalize ms.getD k default = m at *
      obtain ⟨h1, h2, _⟩ := fi.mi m hm
      have pi : itemD (.tuple (ps.map numV)) (m.i : Nat) = some (numV (ps.getD m.i (0, 0))) := at_tup h1
      have pj : itemD (.tuple (ps.map numV)) (m.j : Nat) = some (numV (ps.getD m.j (0, 0))) := at_tup h2
      have vi' : itemD (.tuple (ws.map wV)) (m.i : Nat) = some (wV (ws.getD m.i (0, 0))) := at_tup (by omega)
      have vj' : itemD (.tuple (ws.map wV)) (m.j : Nat) = some (wV (ws.getD m.j (0, 0))) := at_tup (by omega)
      obtain ⟨p1, p2⟩ := fi.pc _ (mem_getD (d := (0, 0)) h1)
      obtain ⟨q1, q2⟩ := fi.pc _ (mem_getD (d := (0, 0)) h2)
      obtain ⟨v1, v2⟩ := vi _ (mem_getD (xs := ws) (d := (0, 0)) (k := m.i) (by omega))
      obtain ⟨w1, w2⟩ := vi _ (mem_getD (xs := ws) (d := (0, 0)) (k := m.j) (by omega))
      have n0 := isnum_rat (ws := ws) (by omega)
      unfold growQ
      generalize ps.getD m.i (0, 0) = p at *
      generalize ps.getD m.j (0, 0) = q at *
      generalize ws.getD m.i (0, 0) = v at *
      generalize ws.getD m.j (0, 0) = w at *
      refine wp_seq (wp_asgG (d := .tuple [.tuple (ps.map numV), .tuple (ms.map memV), .tuple (pins.map PyData.int)]) (ed_var rfl) (gd_tup (gds_cons gd_name (gds_cons gd_name (gds_cons gd_name gds_nil))) rfl) ?_)
      refine wp_seq (wp_asgG (d := .tuple [.int (m.i : Nat), .int (m.j : Nat)]) (ED.of (ed_sliceT (ds := [.int (m.i : Nat), .int (m.j : Nat), limV m.pull, limV m.push]) (by repeat' first | walk_at "ev2" | exact at1 | fail) eo_none (eo_some ed_int)) (by rw [cut_02])) (gd_tup (gds_cons gd_name (gds_cons gd_name gds_nil)) rfl) ?_)
      refine wp_seq (wp_asg (d := .int (p.1 - q.1)) (by repeat' first | walk_at "ev2" | exact pi | exact pj | fail) ?_)
      refine wp_seq (wp_asg (d := .int (p.2 - q.2)) (by repeat' first | walk_at "ev2" | exact pi | exact pj | fail) ?_)
      refine wp_seq (wp_asg (d := wV v) (by repeat' first | walk_at "ev2" | exact vi' | fail) ?_)
      refine wp_seq (wp_asg (d := wV w) (by repeat' first | walk_at "ev2" | exact vj' | fail) ?_)
      have s1 := R_minus_q (v1.mono (b := 3900)) (w1.mono (b := 3900))
      have s2 := R_minus_q (v2.mono (b := 3900)) (w2.mono (b := 3900))
      have z1 := v1.sub w1
      have z2 := v2.sub w2
      have x1 : Sz 41 (((p.1 - q.1 : Int)) : Rat) := Sz.int (p1.sub q1)
      have x2 : Sz 41 (((p.2 - q.2 : Int)) : Rat) := Sz.int (p2.sub q2)
      have dt : R_dot [.tuple [.int (p.1 - q.1), .int (p.2 - q.2)], .tuple [qV (v.1 - w.1), qV (v.2 - w.2)]] (qV (((p.1 - q.1 : Int) : Rat) * (v.1 - w.1) + ((p.2 - q.2 : Int) : Rat) * (v.2 - w.2))) := ⟨_, _, _, _, rfl, (p1.sub q1).mono (by decide), (p2.sub q2).mono (by decide), z1.mono, z2.mono, rfl⟩
      refine wp_seq (wp_if (b := true) (by repeat' first | walk_at "ev2" | exact n0 | fail) (fun _ => ?_) (fun h => nomatch h))
      refine wp_ret (by repeat' first | exact dt | walk_at "ev2" | exact s1 | exact s2 | fail) ?_
      rfl
    simp only at fi vi vl kl
    have hm : ms.getD k default ∈ ms := mem_getD kl
    have at1 : itemD (.tuple (ms.map memV)) (k : Nat) = some (memV (ms.getD k default)) := at_tup kl
    show WP K _ _ _
    simp only [GrA.m]
    generalize ms.getD k default = m at *
    obtain ⟨h1, h2, _⟩ := fi.mi m hm
    have pi : itemD (.tuple (ps.map numV)) (m.i : Nat) = some (numV (ps.getD m.i (0, 0))) := at_tup h1
    have pj : itemD (.tuple (ps.map numV)) (m.j : Nat) = some (numV (ps.getD m.j (0, 0))) := at_tup h2
    have vi' : itemD (.tuple (vs.map numV)) (m.i : Nat) = some (numV (vs.getD m.i (0, 0))) := at_tup (by omega)
    have vj' : itemD (.tuple (vs.map numV)) (m.j : Nat) = some (numV (vs.getD m.j (0, 0))) := at_tup (by omega)
    obtain ⟨p1, p2⟩ := fi.pc _ (mem_getD (d := (0, 0)) h1)
    obtain ⟨q1, q2⟩ := fi.pc _ (mem_getD (d := (0, 0)) h2)
    obtain ⟨v1, v2⟩ := vi _ (mem_getD (xs := vs) (d := (0, 0)) (k := m.i) (by omega))
    obtain ⟨w1, w2⟩ := vi _ (mem_getD (xs := vs) (d := (0, 0)) (k := m.j) (by omega))
    have n0 := isnum_vec (vs := vs) (by omega)
    unfold growM
    generalize ps.getD m.i (0, 0) = p at *
    generalize ps.getD m.j (0, 0) = q at *
    generalize vs.getD m.i (0, 0) = v at *
    generalize vs.getD m.j (0, 0) = w at *
    refine wp_seq (wp_asgG (d := .tuple [.tuple (ps.map numV), .tuple (ms.map memV), .tuple (pins.map PyData.int)]) (ed_var rfl) (gd_tup (gds_cons gd_name (gds_cons gd_name (gds_cons gd_name gds_nil))) rfl) ?_)
    refine wp_seq (wp_asgG (d := .tuple [.int (m.i : Nat), .int (m.j : Nat)]) (ED.of (ed_sliceT (ds := [.int (m.i : Nat), .int (m.j : Nat), limV m.pull, limV m.push]) (by repeat' first | walk_at "ev2" | exact at1 | fail) eo_none (eo_some ed_int)) (by rw [cut_02])) (gd_tup (gds_cons gd_name (gds_cons gd_name gds_nil)) rfl) ?_)
    refine wp_seq (wp_asg (d := .int (p.1 - q.1)) (by repeat' first | walk_at "ev2" | exact pi | exact pj | fail) ?_)
    refine wp_seq (wp_asg (d := .int (p.2 - q.2)) (by repeat' first | walk_at "ev2" | exact pi | exact pj | fail) ?_)
    refine wp_seq (wp_asg (d := numV v) (by repeat' first | walk_at "ev2" | exact vi' | fail) ?_)
    refine wp_seq (wp_asg (d := numV w) (by repeat' first | walk_at "ev2" | exact vj' | fail) ?_)
    refine wp_seq (wp_if (b := false) (by repeat' first | walk_at "ev2" | exact n0 | fail) (fun h => nomatch h) (fun _ => wp_next ?_))
    refine wp_ret (by repeat' first | walk_at "ev2" | exact mulX (p1.sub q1) (v1.sub w1) | exact mulX (p2.sub q2) (v2.sub w2) | fail) ?_
    rfl

/-! ### uses -/
def neZ : Option Int → Bool
  | some 0 => false
  | _ => true
theorem ne_lim {o : Option Int} : (!PyData.eqv (limV o) (.int 0)) = neZ o := by
  cases o with
  | none => rfl
  | some n =>
    show (!(n == 0)) = _
    by_cases h : n = 0
    · subst h; rfl
    · have : (n == 0) = false := by simpa using h
      rw [this]
      unfold neZ
      split
      · next e => injection e with e; exact absurd e h
      · rfl
theorem shp_lim {n : Nat} {o : Option Int} : Shp n (limV o) := by
  cases o with
  | none => exact shp_none
  | some i => exact shp_int
def usedI (g : Int) (a b : Option Int) : Int := if g > 0 ∧ neZ a = true then g else if g < 0 ∧ neZ b = true then -g else 0
def usedQ (g : Rat) (a b : Option Int) : Rat := if g.num > 0 ∧ neZ a = true then g else if g.num < 0 ∧ neZ b = true then -g else 0
def R_used (ds : List D) (d : D) : Prop := ∃ (g : Int) (a b : Option Int), ds = [.int g, limV a, limV b] ∧ d = .int (usedI g a b)
theorem and_dec {p : Prop} [Decidable p] {b : Bool} : (decide p && b) = decide (p ∧ b = true) := by
  by_cases h : p <;> cases b <;> simp [h]
theorem lt_nrm {k : Nat} {n : Int} (h : Lt k n) : Lt k (-n) := h.neg

theorem ok_used (T : Txt K mg) : FnOk P w K mg base CX0 1 T.f_used T.fd_used ["grown", "pull", "push"] (spD K R_used) := by
  refine ok_wp T.F_used sc_used ?_ (fun cdv hcv A outer s H E hr => ⟨_, (pss_cons (ps_if (PW.pt (pw_and (pt_cmpR op_gt (pv 0) pe_int (nomark _)) (pw_and1 (pt_cmpR (kx_ne (K := K) hr.units) (pv 1) pe_int (nomark _))))) (pss_one (ps_ret (pv 0))) pss_nil)
      (pss_cons (ps_if (PW.pt (pw_and (pt_cmpR op_lt (pv 0) pe_int (nomark _)) (pw_and1 (pt_cmpR (kx_ne (K := K) hr.units) (pv 2) pe_int (nomark _))))) (pss_one (ps_ret (pe_un un_neg (pv 0)))) pss_nil)
      (pss_one (ps_ret pe_int)))), ?_⟩)
  all_goals (try simp only [nox_K, blk_K, cx_K])
  · rintro ds d ⟨g, a, b, rfl, _⟩; rfl
  · rintro ds d ⟨g, a, b, rfl, rfl⟩
    refine wp_seq (wp_if (b := decide (g > 0 ∧ neZ a = true)) (ET.of (by repeat' first | walk_at "ev2" | exact Shp.shaped (n := 0) shp_lim | fail) (by rw [ne_lim, and_dec])) (fun h => ?_) (fun h => wp_next ?_))
    · refine wp_ret (by walk_at "ev") ?_
      show PyData.int _ = .int _
      rw [usedI, if_pos (of_decide_eq_true h)]
    · refine wp_seq (wp_if (b := decide (g < 0 ∧ neZ b = true)) (ET.of (by repeat' first | walk_at "ev2" | exact Shp.shaped (n := 0) shp_lim | fail) (by rw [ne_lim, and_dec])) (fun h2 => ?_) (fun h2 => wp_next ?_))
      · refine wp_ret (by walk_at "ev") ?_
        show PyData.int _ = .int _
        rw [usedI, if_neg (of_decide_eq_false h), if_pos (of_decide_eq_true h2)]
      · refine wp_ret (by walk_at "ev") ?_
        show PyData.int _ = .int _
        rw [usedI, if_neg (of_decide_eq_false h), if_neg (of_decide_eq_false h2)]
theorem usedQ_nrm (r : Rat) (a b : Option Int) : nrm (usedI r.num a b) (r.den : Int) = ratP (usedQ r a b) := by
  unfold usedI usedQ
  by_cases h : r.num > 0 ∧ neZ a = true
  · rw [if_pos h, if_pos h, nrm_self]
  · rw [if_neg h, if_neg h]
    by_cases h2 : r.num < 0 ∧ neZ b = true
    · rw [if_pos h2, if_pos h2]
      exact nrm_self (-r)
    · rw [if_neg h2, if_neg h2, nrm_rat (den_ne r)]
      congr 1
      have : ((0 : Int) : Rat) = 0 := rfl
      rw [this, Rat.div_def, Rat.zero_mul]
def R_use (ds : List D) (d : D) : Prop := (∃ g : GrA, ds = [frameV g.ps g.ms g.pins, .int (g.k : Nat), .tuple (g.vs.map numV)] ∧ g.Ok ∧ d = .int (usedI (growM g.ps g.m g.vs) g.m.pull g.m.push)) ∨
  (∃ g : GrQ, ds = [frameV g.ps g.ms g.pins, .int (g.k : Nat), .tuple (g.ws.map wV)] ∧ g.Ok ∧ d = qV (usedQ (growQ g.ps g.m g.ws) g.m.pull g.m.push))
theorem ok_use (T : Txt K mg) : FnOk P w K mg base CX0 5 T.f_use T.fd_use ["frame", "k", "motion"] (spD K R_use) := by
  refine ok_wp T.F_use sc_use ?_ (fun cdv hcv A outer s H E hr => ⟨_, (pss_cons (ps_asg (pe_ix (kx_ix (K := K)) (pe_ix (kx_ix (K := K)) (pv 0) pe_int (fun _ _ => rfl)) (pv 1) (fun _ _ => rfl)) (kpg_tup (K := K) (n := 4) rfl (pgs_cons (pg_name (i := 3) sc_use.nd rfl (by first | exact Or.inl rfl | exact Or.inr rfl)) (pgs_cons (pg_name (i := 3) sc_use.nd rfl (by first | exact Or.inl rfl | exact Or.inr rfl)) (pgs_cons (pg_name (i := 4) sc_use.nd rfl (by first | exact Or.inl rfl | exact Or.inr rfl)) (pgs_cons (pg_name (i := 5) sc_use.nd rfl (by first | exact Or.inl rfl | exact Or.inr rfl)) pgs_nil))))))
      (pss_cons (ps_set (i := 6) sc_use.nd rfl (by first | exact Or.inl rfl | exact Or.inr rfl) (pe_call (ok_growth T) (hr.mono (by decide)) (by rfl) T.g_growth T.F_growth.kp T.b_growth .nil pass0 (pa_cons (pv 0) (pa_cons (pv 1) (pa_cons (pv 2) pa_nil)))))
      (pss_cons (ps_if (pt_val (pe_callB (kx_isi (K := K)) (by rfl) T.z_isinstance (by decide +kernel) (pa_cons (pv 6) (pa_cons (pe_bltn (v := .ty "tuple") (by rfl) T.z_tuple (by decide +kernel) rfl) pa_nil)))) (pss_one (ps_ret (pe_call (ok_number T) (hr.mono (by decide)) (by rfl) T.g_number T.F_number.kp T.b_number .nil pass0 (pa_cons (pe_call (ok_used T) (hr.mono (by decide)) (by rfl) T.g_used T.F_used.kp T.b_used .nil pass0 (pa_cons (pe_ix (kx_ix (K := K)) (pv 6) pe_int (fun _ _ => rfl)) (pa_cons (pv 4) (pa_cons (pv 5) pa_nil)))) (pa_cons (pe_ix (kx_ix (K := K)) (pv 6) pe_int (fun _ _ => rfl)) pa_nil))))) pss_nil)
      (pss_one (ps_ret (pe_call (ok_used T) (hr.mono (by decide)) (by rfl) T.g_used T.F_used.kp T.b_used .nil pass0 (pa_cons (pv 6) (pa_cons (pv 4) (pa_cons (pv 5) pa_nil))))))))), ?_⟩)
  all_goals (try simp only [nox_K, blk_K, cx_K])
  · rintro ds d (⟨g, rfl, _⟩ | ⟨g, rfl, _⟩) <;> rfl
  · rintro ds d (⟨g, rfl, ok, rfl⟩ | ⟨g, rfl, ok, rfl⟩)
    · have at1 : itemD (.tuple (g.ms.map memV)) (g.k : Nat) = some (memV g.m) := at_tup ok.kl
      have gr : R_growthB [frameV g.ps g.ms g.pins, .int (g.k : Nat), .tuple (g.vs.map numV)] (.int (growM g.ps g.m g.vs)) := .inl ⟨g, rfl, ok, rfl⟩
      have us : R_used [.int (growM g.ps g.m g.vs), limV g.m.pull, limV g.m.push] (.int (usedI (growM g.ps g.m g.vs) g.m.pull g.m.push)) := ⟨_, _, _, rfl, rfl⟩
      generalize growM g.ps g.m g.vs = G at *
      refine wp_seq (wp_asgG (d := memV g.m) (by repeat' first | walk_at "ev2" | exact at1 | fail) (gd_tup (ds := [.int (g.m.i : Nat), .int (g.m.j : Nat), limV g.m.pull, limV g.m.push]) (gds_cons gd_name (gds_cons gd_name (gds_cons gd_name (gds_cons gd_name gds_nil)))) rfl) ?_)
      refine wp_seq (wp_asg (d := .int G) (by repeat' first | walk_at "ev2" | exact gr | fail) ?_)
      refine wp_seq (wp_if (b := false) (by repeat' first | walk_at "ev2" | fail) (fun h => nomatch h) (fun _ => wp_next ?_))
      exact wp_ret (by repeat' first | walk_at "ev2" | exact us | fail) rfl
    · have at1 : itemD (.tuple (g.ms.map memV)) (g.k : Nat) = some (memV g.m) := at_tup ok.kl
      have gr : R_growthB [frameV g.ps g.ms g.pins, .int (g.k : Nat), .tuple (g.ws.map wV)] (qV (growQ g.ps g.m g.ws)) := .inr ⟨g, rfl, ok, rfl⟩
      have sz := growQ_sz ok.fi (mem_getD (d := default) ok.kl) ok.vi ok.vl
      rw [show g.ms.getD g.k default = g.m from rfl] at sz
      generalize growQ g.ps g.m g.ws = G at *
      have us : R_used [.int G.num, limV g.m.pull, limV g.m.push] (.int (usedI G.num g.m.pull g.m.push)) := ⟨_, _, _, rfl, rfl⟩
      have nu : R_number [.int (usedI G.num g.m.pull g.m.push), .int (G.den : Int)] (qV (usedQ G g.m.pull g.m.push)) := ⟨_, _, rfl, den_ne G, sz.2.mono, by rw [usedQ_nrm]; rfl⟩
      refine wp_seq (wp_asgG (d := memV g.m) (by repeat' first | walk_at "ev2" | exact at1 | fail) (gd_tup (ds := [.int (g.m.i : Nat), .int (g.m.j : Nat), limV g.m.pull, limV g.m.push]) (gds_cons gd_name (gds_cons gd_name (gds_cons gd_name (gds_cons gd_name gds_nil)))) rfl) ?_)
      refine wp_seq (wp_asg (d := qV G) (by repeat' first | walk_at "ev2" | exact gr | fail) ?_)
      refine wp_seq (wp_if (b := true) (by repeat' first | walk_at "ev2" | fail) (fun _ => ?_) (fun h => nomatch h))
      exact wp_ret (by repeat' first | walk_at "ev2" | exact us | exact nu | fail) rfl

/-! ### the law's numbers -/
theorem sz_lt {a b : Nat} {r s : Rat} (h : Sz a r) (h' : Sz b s) (hab : a + b + 1 ≤ 1900) : Lt 1900 (r.num * (s.den : Int) + s.num * (r.den : Int)) ∧ Lt 1900 ((r.den : Int) * (s.den : Int)) ∧ Lt 1900 (r.num * s.num) :=
  ⟨(Lt.add (h.1.mul h'.2) ((h'.1.mul h.2).mono (by omega))).mono (by omega), (h.2.mul h'.2).mono (by omega), (h.1.mul h'.1).mono (by omega)⟩
theorem R_lplus_q {a b : Nat} {r s : Rat} (h : Sz a r) (h' : Sz b s) (hab : a + b + 1 ≤ 1900 := by decide) : R_lplus [qV r, qV s] (qV (r + s)) := by
  obtain ⟨l1, l2, _⟩ := sz_lt h h' hab
  exact ⟨ratP r, ratP s, rfl, den_ne r, den_ne s, ⟨h.1.mono (by omega), h.2.mono (by omega), h'.1.mono (by omega), h'.2.mono (by omega)⟩, l1, l2, by rw [qV, ← nrm_add]; rfl⟩
theorem R_ltimes_q {a b : Nat} {r s : Rat} (h : Sz a r) (h' : Sz b s) (hab : a + b + 1 ≤ 1900 := by decide) : R_ltimes [qV r, qV s] (qV (r * s)) := by
  obtain ⟨_, l2, l3⟩ := sz_lt h h' hab
  exact ⟨ratP r, ratP s, rfl, den_ne r, den_ne s, ⟨h.1.mono (by omega), h.2.mono (by omega), h'.1.mono (by omega), h'.2.mono (by omega)⟩, l3, l2, by rw [qV, ← nrm_mul]; rfl⟩
theorem R_lnumber_q {n m : Int} (h : m ≠ 0) (hn : Lt 1900 n) (hm : Lt 1900 m) : R_lnumber [.int n, .int m] (qV ((n : Rat) / (m : Rat))) := ⟨n, m, rfl, h, hn, hm, (qV_nrm h).symm⟩
theorem Sz.neg {k : Nat} {r : Rat} (h : Sz k r) : Sz k (-r) := ⟨h.1.neg, h.2⟩
def R_lisnum (ds : List D) (d : D) : Prop := ∃ r : Rat, ds = [qV r] ∧ Sz 1900 r ∧ d = .bool true
theorem ok_u_law_is_number (T : Txt K mg) : FnOk P w K mg base CX0 3 T.f_u_law_is_number T.fd_u_law_is_number ["actual"] (spD K R_lisnum) := by
  refine ok_wp T.F_u_law_is_number sc_u_law_is_number ?_ (fun cdv hcv A outer s H E hr => ⟨_, (pss_cons (ps_if (PW.pt (pw_or (pt_not (pt_val (pe_callB (kx_isi (K := K)) (by rfl) T.z_isinstance (by decide +kernel) (pa_cons (pv 0) (pa_cons (pe_bltn (v := .ty "tuple") (by rfl) T.z_tuple (by decide +kernel) rfl) pa_nil))))) (pw_or (pt_cmpR (kx_ne (K := K) hr.units) (pe_callB (kx_len (K := K)) (by rfl) T.z_len (by decide +kernel) (pa_cons (pv 0) pa_nil)) pe_int (nomark _)) (pw_or (pt_not (pt_val (pe_callB (kx_isi (K := K)) (by rfl) T.z_isinstance (by decide +kernel) (pa_cons (pe_ix (kx_ix (K := K)) (pv 0) pe_int (fun _ _ => rfl)) (pa_cons (pe_bltn (v := .ty "int") (by rfl) T.z_int (by decide +kernel) rfl) pa_nil))))) (pw_or1 (pt_not (pt_val (pe_callB (kx_isi (K := K)) (by rfl) T.z_isinstance (by decide +kernel) (pa_cons (pe_ix (kx_ix (K := K)) (pv 0) pe_int (fun _ _ => rfl)) (pa_cons (pe_bltn (v := .ty "int") (by rfl) T.z_int (by decide +kernel) rfl) pa_nil)))))))))) (pss_one (ps_ret pe_bl)) pss_nil)
      (pss_one (ps_ret (pe_and (pe_cmpR op_gt (pe_ix (kx_ix (K := K)) (pv 0) pe_int (fun _ _ => rfl)) pe_int (nomark _)) (pe_one (pe_cmpR (kx_eq (K := K) hr.units) (pe_call (ok_u_law_number T) (hr.mono (by decide)) (by rfl) T.g_u_law_number T.F_u_law_number.kp T.b_u_law_number .nil pass0 (pa_cons (pe_ix (kx_ix (K := K)) (pv 0) pe_int (fun _ _ => rfl)) (pa_cons (pe_ix (kx_ix (K := K)) (pv 0) pe_int (fun _ _ => rfl)) pa_nil))) (pv 0) (nomark _))))))), ?_⟩)
  all_goals (try simp only [nox_K, blk_K, cx_K])
  · rintro ds d ⟨r, rfl, _⟩; rfl
  · rintro ds d ⟨r, rfl, hs, rfl⟩
    have nu : R_lnumber [.int r.num, .int (r.den : Int)] (qV r) := ⟨_, _, rfl, den_ne r, hs.1, hs.2, by rw [nrm_self]; rfl⟩
    refine wp_seq (wp_if (b := false) (ET.of (by repeat' first | walk_at "ev2" | fail) (by rfl)) (fun h => nomatch h) (fun _ => wp_next ?_))
    refine wp_ret (d := .bool true) (ED.of (d := .bool (decide ((r.den : Int) > 0) && PyData.eqv (qV r) (qV r))) (by repeat' first | walk_at "ev2" | exact nu | exact Shp.shaped (n := 1) shp_num | fail) ?_) rfl
    rw [eqv_q, decide_eq_true rfl, decide_eq_true (show (r.den : Int) > 0 by have := r.den_nz; omega)]; rfl
/-- the sum over both coordinates, so far -/
def partQ (dx : Int × Int) (v w : Rat × Rat) (t : Nat) : Rat := if t = 0 then 0 else if t = 1 then (dx.1 : Rat) * (v.1 - w.1) else (dx.1 : Rat) * (v.1 - w.1) + (dx.2 : Rat) * (v.2 - w.2)
theorem partQ_step (dx : Int × Int) (v w : Rat × Rat) {t : Nat} (h : t < 2) : partQ dx v w t + (cmp dx t : Int) * (cmp v t + -(cmp w t)) = partQ dx v w (t + 1) := by
  rcases (show t = 0 ∨ t = 1 by omega) with rfl | rfl
  · show (0 : Rat) + (dx.1 : Rat) * (v.1 + -w.1) = (dx.1 : Rat) * (v.1 - w.1)
    rw [Rat.zero_add, Rat.sub_eq_add_neg]
  · show (dx.1 : Rat) * (v.1 - w.1) + (dx.2 : Rat) * (v.2 + -w.2) = (dx.1 : Rat) * (v.1 - w.1) + (dx.2 : Rat) * (v.2 - w.2)
    rw [Rat.sub_eq_add_neg v.2]
theorem partQ_sz {dx : Int × Int} {v w : Rat × Rat} {t : Nat} (h1 : Lt 41 dx.1) (h2 : Lt 41 dx.2) (hv : Sz 200 v.1 ∧ Sz 200 v.2) (hw : Sz 200 w.1 ∧ Sz 200 w.2) : Sz 900 (partQ dx v w t) := by
  unfold partQ
  split
  · exact Sz.int (n := 0) (by unfold Lt; decide)
  · split
    · exact ((Sz.int h1).mul (hv.1.sub hw.1)).mono
    · exact (((Sz.int h1).mul (hv.1.sub hw.1)).add ((Sz.int h2).mul (hv.2.sub hw.2))).mono
def R_luse (ds : List D) (d : D) : Prop := ∃ g : GrQ, ds = [frameV g.ps g.ms g.pins, .int (g.k : Nat), .tuple (g.ws.map wV)] ∧ g.Ok ∧ d = qV (usedQ (growQ g.ps g.m g.ws) g.m.pull g.m.push)
theorem ok_u_law_use (T : Txt K mg) : FnOk P w K mg base CX0 4 T.f_u_law_use T.fd_u_law_use ["frame", "k", "motion"] (spD K R_luse) := by
  refine ok_wp T.F_u_law_use sc_u_law_use ?_ (fun cdv hcv A outer s H E hr => ⟨_, (pss_cons (ps_asg (pe_ix (kx_ix (K := K)) (pe_ix (kx_ix (K := K)) (pv 0) pe_int (fun _ _ => rfl)) (pv 1) (fun _ _ => rfl)) (kpg_tup (K := K) (n := 4) rfl (pgs_cons (pg_name (i := 3) sc_u_law_use.nd rfl (by first | exact Or.inl rfl | exact Or.inr rfl)) (pgs_cons (pg_name (i := 4) sc_u_law_use.nd rfl (by first | exact Or.inl rfl | exact Or.inr rfl)) (pgs_cons (pg_name (i := 5) sc_u_law_use.nd rfl (by first | exact Or.inl rfl | exact Or.inr rfl)) (pgs_cons (pg_name (i := 6) sc_u_law_use.nd rfl (by first | exact Or.inl rfl | exact Or.inr rfl)) pgs_nil))))))
      (pss_cons (ps_set (i := 7) sc_u_law_use.nd rfl (by first | exact Or.inl rfl | exact Or.inr rfl) (pe_tup (pa_cons pe_int (pa_cons pe_int pa_nil))))
      (pss_cons (ps_for PassesOwn.never rfl (pi_range1 (by rfl) T.z_range (pa_cons pe_int pa_nil)) (pg_name (i := 8) sc_u_law_use.nd rfl (by first | exact Or.inl rfl | exact Or.inr rfl))
      (pss_cons (ps_set (i := 9) sc_u_law_use.nd rfl (by first | exact Or.inl rfl | exact Or.inr rfl) (pe_call (ok_u_law_plus T) (hr.mono (by decide)) (by rfl) T.g_u_law_plus T.F_u_law_plus.kp T.b_u_law_plus .nil pass0 (pa_cons (pe_ix (kx_ix (K := K)) (pe_ix (kx_ix (K := K)) (pv 2) (pv 3) (fun _ _ => rfl)) (pv 8) (fun _ _ => rfl)) (pa_cons (pe_tup (pa_cons (pe_un un_neg (pe_ix (kx_ix (K := K)) (pe_ix (kx_ix (K := K)) (pe_ix (kx_ix (K := K)) (pv 2) (pv 4) (fun _ _ => rfl)) (pv 8) (fun _ _ => rfl)) pe_int (fun _ _ => rfl))) (pa_cons (pe_ix (kx_ix (K := K)) (pe_ix (kx_ix (K := K)) (pe_ix (kx_ix (K := K)) (pv 2) (pv 4) (fun _ _ => rfl)) (pv 8) (fun _ _ => rfl)) pe_int (fun _ _ => rfl)) pa_nil))) pa_nil))))
      (pss_one (ps_set (i := 7) sc_u_law_use.nd rfl (by first | exact Or.inl rfl | exact Or.inr rfl) (pe_call (ok_u_law_plus T) (hr.mono (by decide)) (by rfl) T.g_u_law_plus T.F_u_law_plus.kp T.b_u_law_plus .nil pass0 (pa_cons (pv 7) (pa_cons (pe_call (ok_u_law_times T) (hr.mono (by decide)) (by rfl) T.g_u_law_times T.F_u_law_times.kp T.b_u_law_times .nil pass0 (pa_cons (pe_tup (pa_cons (pe_op op_sub (pe_ix (kx_ix (K := K)) (pe_ix (kx_ix (K := K)) (pe_ix (kx_ix (K := K)) (pv 0) pe_int (fun _ _ => rfl)) (pv 3) (fun _ _ => rfl)) (pv 8) (fun _ _ => rfl)) (pe_ix (kx_ix (K := K)) (pe_ix (kx_ix (K := K)) (pe_ix (kx_ix (K := K)) (pv 0) pe_int (fun _ _ => rfl)) (pv 4) (fun _ _ => rfl)) (pv 8) (fun _ _ => rfl))) (pa_cons pe_int pa_nil))) (pa_cons (pv 9) pa_nil))) pa_nil)))))))
      (pss_cons (ps_if (PW.pt (pw_and (pt_cmpR op_gt (pe_ix (kx_ix (K := K)) (pv 7) pe_int (fun _ _ => rfl)) pe_int (nomark _)) (pw_and1 (pt_cmpR (kx_ne (K := K) hr.units) (pv 5) pe_int (nomark _))))) (pss_one (ps_ret (pv 7))) pss_nil)
      (pss_cons (ps_if (PW.pt (pw_and (pt_cmpR op_lt (pe_ix (kx_ix (K := K)) (pv 7) pe_int (fun _ _ => rfl)) pe_int (nomark _)) (pw_and1 (pt_cmpR (kx_ne (K := K) hr.units) (pv 6) pe_int (nomark _))))) (pss_one (ps_ret (pe_tup (pa_cons (pe_un un_neg (pe_ix (kx_ix (K := K)) (pv 7) pe_int (fun _ _ => rfl))) (pa_cons (pe_ix (kx_ix (K := K)) (pv 7) pe_int (fun _ _ => rfl)) pa_nil))))) pss_nil)
      (pss_one (ps_ret (pe_tup (pa_cons pe_int (pa_cons pe_int pa_nil)))))))))), ?_⟩)
  all_goals (try simp only [nox_K, blk_K, cx_K])
  · rintro ds d ⟨g, rfl, _⟩; rfl
  · rintro ds d ⟨⟨ps, ms, pins, ws, k⟩, rfl, ⟨fi, vi, vl, kl⟩, rfl⟩
    simp only at fi vi vl kl
    have hm : ms.getD k default ∈ ms := mem_getD kl
    have at1 : itemD (.tuple (ms.map memV)) (k : Nat) = some (memV (ms.getD k default)) := at_tup kl
    show WP K _ _ _
    simp only [GrQ.m]
    generalize ms.getD k default = m at *
    obtain ⟨h1, h2, _⟩ := fi.mi m hm
    have pi : itemD (.tuple (ps.map numV)) (m.i : Nat) = some (numV (ps.getD m.i (0, 0))) := at_tup h1
    have pj : itemD (.tuple (ps.map numV)) (m.j : Nat) = some (numV (ps.getD m.j (0, 0))) := at_tup h2
    have vi' : itemD (.tuple (ws.map wV)) (m.i : Nat) = some (wV (ws.getD m.i (0, 0))) := at_tup (by omega)
    have vj' : itemD (.tuple (ws.map wV)) (m.j : Nat) = some (wV (ws.getD m.j (0, 0))) := at_tup (by omega)
    obtain ⟨p1, p2⟩ := fi.pc _ (mem_getD (d := (0, 0)) h1)
    obtain ⟨q1, q2⟩ := fi.pc _ (mem_getD (d := (0, 0)) h2)
    have hv := vi _ (mem_getD (xs := ws) (d := (0, 0)) (k := m.i) (by omega))
    have hw := vi _ (mem_getD (xs := ws) (d := (0, 0)) (k := m.j) (by omega))
    have eg : growQ ps m ws = partQ ((ps.getD m.i (0, 0)).1 - (ps.getD m.j (0, 0)).1, (ps.getD m.i (0, 0)).2 - (ps.getD m.j (0, 0)).2) (ws.getD m.i (0, 0)) (ws.getD m.j (0, 0)) 2 := rfl
    rw [eg]
    generalize ps.getD m.i (0, 0) = p at *
    generalize ps.getD m.j (0, 0) = q at *
    generalize ws.getD m.i (0, 0) = v at *
    generalize ws.getD m.j (0, 0) = w at *
    have zz := fun t => partQ_sz (t := t) (dx := (p.1 - q.1, p.2 - q.2)) (p1.sub q1) (p2.sub q2) hv hw
    refine wp_seq (wp_asgG (d := memV m) (by repeat' first | walk_at "ev2" | exact at1 | fail) (gd_tup (ds := [.int (m.i : Nat), .int (m.j : Nat), limV m.pull, limV m.push]) (gds_cons gd_name (gds_cons gd_name (gds_cons gd_name (gds_cons gd_name gds_nil)))) rfl) ?_)
    refine wp_seq (wp_asg (d := qV 0) (ED.of (d := .tuple [.int 0, .int 1]) (by walk_at "ev") (qV_int 0)) ?_)
    refine wp_seq (wp_forG (xs := List.range 2) (g := fun t => PyData.int (t : Nat)) (fun t δ => ∃ (a b : SV), δ = [.val (frameV ps ms pins), .val (.int (k : Nat)), .val (.tuple (ws.map wV)), .val (.int (m.i : Nat)), .val (.int (m.j : Nat)), .val (limV m.pull), .val (limV m.push), .val (qV (partQ (p.1 - q.1, p.2 - q.2) v w t)), a, b])
      (by repeat' first | walk_at "ev2" | (show (_ : Nat) ≤ _; decide) | fail) ⟨_, _, rfl⟩ ?_ ?_)
    · rintro t x δ ex ⟨a, b, rfl⟩
      have ht : t < 2 := by
        have := (List.getElem?_eq_some_iff.mp ex).1
        rwa [List.length_range] at this
      have : x = t := by
        rw [List.getElem?_range ht] at ex
        exact (Option.some.inj ex).symm
      subst this
      have av : itemD (wV v) (x : Nat) = some (qV (cmp v x)) := at_wV ht
      have aw : itemD (wV w) (x : Nat) = some (qV (cmp w x)) := at_wV ht
      have ap : itemD (numV p) (x : Nat) = some (.int (cmp p x)) := at_num ht
      have aq : itemD (numV q) (x : Nat) = some (.int (cmp q x)) := at_num ht
      have cv : Sz 200 (cmp v x) := by unfold cmp; split; exact hv.1; exact hv.2
      have cw : Sz 200 (cmp w x) := by unfold cmp; split; exact hw.1; exact hw.2
      have cx : cmp p x - cmp q x = cmp (p.1 - q.1, p.2 - q.2) x := by
        rcases (show x = 0 ∨ x = 1 by omega) with rfl | rfl <;> rfl
      have cl : Sz 41 ((cmp (p.1 - q.1, p.2 - q.2) x : Int) : Rat) := by
        refine Sz.int ?_
        unfold cmp; split; exact p1.sub q1; exact p2.sub q2
      have s1 := R_lplus_q cv cw.neg
      have s2 := R_ltimes_q cl (cv.add cw.neg)
      have s3 := R_lplus_q (zz x) (cl.mul (cv.add cw.neg))
      rw [partQ_step _ _ _ ht] at s3
      rw [← qV_int] at s2
      generalize cmp v x = cV at *
      generalize cmp w x = cW at *
      have aw0 : itemD (qV cW) 0 = some (.int cW.num) := rfl
      have aw1 : itemD (qV cW) 1 = some (.int (cW.den : Int)) := rfl
      refine wp_seq (wp_asg (d := qV (cV + -cW)) (ed_call (ds := [qV cV, qV (-cW)]) (ea_cons (by repeat' first | walk_at "ev2" | exact vi' | exact av | fail) (ea_cons (ED.of (d := .tuple [.int (-cW.num), .int (cW.den : Int)]) (by repeat' first | walk_at "ev2" | exact vj' | exact aw | exact aw0 | exact aw1 | fail) rfl) ea_nil)) s1) ?_)
      refine wp_asg (d := qV (partQ (p.1 - q.1, p.2 - q.2) v w (x + 1))) (ed_call (ds := [qV (partQ (p.1 - q.1, p.2 - q.2) v w x), qV (((cmp (p.1 - q.1, p.2 - q.2) x : Int) : Rat) * (cV + -cW))]) (ea_cons (ed_var rfl) (ea_cons (ed_call (ds := [numV (cmp (p.1 - q.1, p.2 - q.2) x, 1), qV (cV + -cW)]) (ea_cons (ED.of (d := .tuple [.int (cmp p x - cmp q x), .int 1]) (by repeat' first | walk_at "ev2" | exact pi | exact pj | exact ap | exact aq | fail) (by rw [cx]; rfl)) (ea_cons (ed_var rfl) ea_nil)) s2) ea_nil)) s3) ⟨_, _, rfl⟩
    · rintro δ ⟨a, b, rfl⟩
      rw [List.length_range]
      generalize partQ (p.1 - q.1, p.2 - q.2) v w 2 = G at *
      have g0 : itemD (qV G) 0 = some (.int G.num) := rfl
      have g1 : itemD (qV G) 1 = some (.int (G.den : Int)) := rfl
      refine wp_seq (wp_if (b := decide (G.num > 0 ∧ neZ m.pull = true)) (ET.of (by repeat' first | walk_at "ev2" | exact g0 | exact Shp.shaped (n := 0) shp_lim | fail) (by rw [ne_lim, and_dec]; rfl)) (fun h => ?_) (fun h => wp_next ?_))
      · refine wp_ret (ed_var rfl) ?_
        show qV _ = qV _
        rw [usedQ, if_pos (of_decide_eq_true h)]
      · refine wp_seq (wp_if (b := decide (G.num < 0 ∧ neZ m.push = true)) (ET.of (by repeat' first | walk_at "ev2" | exact g0 | exact Shp.shaped (n := 0) shp_lim | fail) (by rw [ne_lim, and_dec]; rfl)) (fun h2 => ?_) (fun h2 => wp_next ?_))
        · refine wp_ret (d := .tuple [.int (-G.num), .int (G.den : Int)]) (by repeat' first | walk_at "ev2" | exact g0 | exact g1 | fail) ?_
          show _ = qV _
          rw [usedQ, if_neg (of_decide_eq_false h), if_pos (of_decide_eq_true h2)]; rfl
        · refine wp_ret (d := .tuple [.int 0, .int 1]) (by walk_at "ev") ?_
          show _ = qV _
          rw [usedQ, if_neg (of_decide_eq_false h), if_neg (of_decide_eq_false h2)]; rfl

def toQ (v : Int × Int) : Rat × Rat := ((v.1 : Rat), (v.2 : Rat))
def R_lnumd (ds : List D) (d : D) : Prop := ∃ vs : List (Int × Int), ds = [.tuple (vs.map numV)] ∧ vs.length ≤ 1000 ∧ d = .tuple ((vs.map toQ).map wV)
theorem ok_u_law_numbered (T : Txt K mg) : FnOk P w K mg base CX0 1 T.f_u_law_numbered T.fd_u_law_numbered ["motion"] (spD K R_lnumd) := by
  refine ok_wp T.F_u_law_numbered sc_u_law_numbered ?_ (fun cdv hcv A outer s H E hr => ⟨_, (pss_one (ps_ret (pe_callTy (kx_tuple (K := K)) (by rfl) T.z_tuple (by decide +kernel) (pa_cons (pe_lc (own := [("v", 1)]) (by rfl) sc_u_law_numbered.nd (kpi_seq (K := K) (pv 0)) (by refine blkOk_by ?_; rfl) (fun _ _ _ _ _ => pg_name (i := 1) sc_u_law_numbered.nd rfl (by first | exact Or.inl rfl | exact Or.inr rfl)) (fun _ _ _ _ _ => pts_nil) (fun _ _ _ _ _ => (pe_tup (pa_cons (pe_tup (pa_cons (pe_ix (kx_ix (K := K)) (pv 1) pe_int (fun _ _ => rfl)) (pa_cons pe_int pa_nil))) (pa_cons (pe_tup (pa_cons (pe_ix (kx_ix (K := K)) (pv 1) pe_int (fun _ _ => rfl)) (pa_cons pe_int pa_nil))) pa_nil))))) pa_nil)))), ?_⟩)
  all_goals (try simp only [nox_K, blk_K, cx_K])
  · rintro ds d ⟨vs, rfl, _⟩; rfl
  · rintro ds d ⟨vs, rfl, hl, rfl⟩
    refine wp_ret (ed_tupleOf (x := .list ((vs.map toQ).map wV)) (ED.of (EN.ed (en_lcA (xs := vs) (gd := numV) (f := fun v => wV (toQ v)) (ei_seq (ed_var rfl) rfl) (sz_small (by omega)) (fun p hp => gw_name (by decide)) fun v hv => ?_)) (by rw [List.map_map]; rfl)) rfl) rfl
    refine ED.of (d := .tuple [.tuple [.int v.1, .int 1], .tuple [.int v.2, .int 1]]) (by repeat' first | walk_at "ev2" | fail) ?_
    show PyData.tuple [numV (v.1, 1), numV (v.2, 1)] = _
    rw [qV_int, qV_int]; rfl
theorem growQ_int {ps : List (Int × Int)} {m : Mem} {vs : List (Int × Int)} (hi : m.i < vs.length) (hj : m.j < vs.length) : growQ ps m (vs.map toQ) = ((growM ps m vs : Int) : Rat) := by
  have gi : (vs.map toQ).getD m.i (0, 0) = toQ (vs.getD m.i (0, 0)) := by
    rw [getD_of (x := toQ vs[m.i]) (by rw [List.getElem?_map, List.getElem?_eq_getElem hi]; rfl), getD_of (List.getElem?_eq_getElem hi)]
  have gj : (vs.map toQ).getD m.j (0, 0) = toQ (vs.getD m.j (0, 0)) := by
    rw [getD_of (x := toQ vs[m.j]) (by rw [List.getElem?_map, List.getElem?_eq_getElem hj]; rfl), getD_of (List.getElem?_eq_getElem hj)]
  unfold growQ growM
  rw [gi, gj, Rat.intCast_add, Rat.intCast_mul, Rat.intCast_mul]
  show _ = ((ps.getD m.i (0, 0)).1 - (ps.getD m.j (0, 0)).1 : Int) * (((vs.getD m.i (0, 0)).1 - (vs.getD m.j (0, 0)).1 : Int) : Rat) + ((ps.getD m.i (0, 0)).2 - (ps.getD m.j (0, 0)).2 : Int) * (((vs.getD m.i (0, 0)).2 - (vs.getD m.j (0, 0)).2 : Int) : Rat)
  rw [Rat.intCast_sub (vs.getD m.i (0, 0)).1, Rat.intCast_sub (vs.getD m.i (0, 0)).2]
  rfl
theorem usedQ_int {g : Int} {a b : Option Int} : usedQ ((g : Int) : Rat) a b = ((usedI g a b : Int) : Rat) := by
  unfold usedQ usedI
  rw [Rat.num_intCast]
  split
  · rfl
  · split
    · rw [Rat.intCast_neg]
    · rfl
def R_law (ds : List D) (d : D) : Prop := ∃ ns : List Int, ds = [.list (ns.map PyData.int)] ∧ ns.length ≤ 63 ∧ d = .bool true
theorem eqv_int {a b : Int} : PyData.eqv (.int a) (.int b) = (a == b) := rfl
def szU : List Int := (List.replicate 14 [9, 4]).flatten
theorem szU_at : ∀ k, k < 7 → szU[4 * k]? = some 9 ∧ szU[4 * k + 1]? = some 4 ∧ szU[4 * k + 2]? = some 9 ∧ szU[4 * k + 3]? = some 4 := by decide
theorem parts_rep {cell s : Int} {m i : Nat} (hs : 0 < s) (h : i < m) : 0 ≤ (partsOf cell (List.replicate m s)).getD i 0 ∧ (partsOf cell (List.replicate m s)).getD i 0 < s := parts_get i (by rw [List.getElem?_replicate, if_pos h]) hs
theorem ok_law (T : Txt K mg) : FnOk P w K mg base CX0 6 T.f_law T.fd_law ["script"] (spD K R_law) := by
  refine ok_wp T.F_law sc_law ?_ (fun cdv hcv A outer s H E hr => ⟨_, (pss_cons (ps_set (i := 1) sc_law.nd rfl (by first | exact Or.inl rfl | exact Or.inr rfl) (pe_call (ok_u_law_frame T) (hr.mono (by decide)) (by rfl) T.g_u_law_frame T.F_u_law_frame.kp T.b_u_law_frame .nil pass0 (pa_cons (pv 0) (pa_cons pe_int (pa_cons pe_int (pa_cons pe_bl pa_nil))))))
      (pss_cons (ps_set (i := 2) sc_law.nd rfl (by first | exact Or.inl rfl | exact Or.inr rfl) (pe_callB (kx_len (K := K)) (by rfl) T.z_len (by decide +kernel) (pa_cons (pe_ix (kx_ix (K := K)) (pv 1) pe_int (fun _ _ => rfl)) pa_nil)))
      (pss_cons (ps_set (i := 3) sc_law.nd rfl (by first | exact Or.inl rfl | exact Or.inr rfl) (pe_call (ok_u_law_parts T) (hr.mono (by decide)) (by rfl) T.g_u_law_parts T.F_u_law_parts.kp T.b_u_law_parts .nil pass0 (pa_cons (pe_call (ok_u_law_cell T) (hr.mono (by decide)) (by rfl) T.g_u_law_cell T.F_u_law_cell.kp T.b_u_law_cell .nil pass0 (pa_cons (pv 0) (pa_cons pe_int pa_nil))) (pa_cons (pe_op op_rep (pe_lst (pa_cons pe_int (pa_cons pe_int pa_nil))) pe_int) pa_nil))))
      (pss_cons (ps_set (i := 4) sc_law.nd rfl (by first | exact Or.inl rfl | exact Or.inr rfl) (pe_callTy (kx_tuple (K := K)) (by rfl) T.z_tuple (by decide +kernel) (pa_cons (pe_lc (own := [("k", 6)]) (by rfl) sc_law.nd (pi_range1 (by rfl) T.z_range (pa_cons (pv 2) pa_nil)) (by refine blkOk_by ?_; rfl) (fun _ _ _ _ _ => pg_name (i := 6) sc_law.nd rfl (by first | exact Or.inl rfl | exact Or.inr rfl)) (fun _ _ _ _ _ => pts_nil) (fun _ _ _ _ _ => (pe_tup (pa_cons (pe_op op_sub (pe_ix (kx_ix (K := K)) (pv 3) (pe_op op_mulX pe_int (pv 6)) (fun _ _ => rfl)) pe_int) (pa_cons (pe_op op_sub (pe_ix (kx_ix (K := K)) (pv 3) (pe_op op_add (pe_op op_mulX pe_int (pv 6)) pe_int) (fun _ _ => rfl)) pe_int) pa_nil))))) pa_nil)))
      (pss_cons (ps_set (i := 5) sc_law.nd rfl (by first | exact Or.inl rfl | exact Or.inr rfl) (pe_lst pa_nil))
      (pss_cons (ps_for PassesOwn.never rfl (pi_range1 (by rfl) T.z_range (pa_cons (pv 2) pa_nil)) (pg_name (i := 6) sc_law.nd rfl (by first | exact Or.inl rfl | exact Or.inr rfl))
      (pss_one (ps_expr (pe_bm PySem.F.plainAttrs_list PySem.F.slot_list_append PySem.F.type_list_append mt_append (pv 5) (pa_cons (pe_tup (pa_cons (pe_call (ok_u_law_number T) (hr.mono (by decide)) (by rfl) T.g_u_law_number T.F_u_law_number.kp T.b_u_law_number .nil pass0 (pa_cons (pe_ix (kx_ix (K := K)) (pe_ix (kx_ix (K := K)) (pv 4) (pv 6) (fun _ _ => rfl)) pe_int (fun _ _ => rfl)) (pa_cons (pe_op op_add pe_int (pe_ix (kx_ix (K := K)) (pv 3) (pe_op op_add (pe_op op_mulX pe_int (pv 6)) pe_int) (fun _ _ => rfl))) pa_nil))) (pa_cons (pe_call (ok_u_law_number T) (hr.mono (by decide)) (by rfl) T.g_u_law_number T.F_u_law_number.kp T.b_u_law_number .nil pass0 (pa_cons (pe_ix (kx_ix (K := K)) (pe_ix (kx_ix (K := K)) (pv 4) (pv 6) (fun _ _ => rfl)) pe_int (fun _ _ => rfl)) (pa_cons (pe_op op_add pe_int (pe_ix (kx_ix (K := K)) (pv 3) (pe_op op_add (pe_op op_mulX pe_int (pv 6)) pe_int) (fun _ _ => rfl))) pa_nil))) pa_nil))) pa_nil)))))
      (pss_cons (ps_for PassesOwn.never rfl (pi_range1 (by rfl) T.z_range (pa_cons (pe_callB (kx_len (K := K)) (by rfl) T.z_len (by decide +kernel) (pa_cons (pe_ix (kx_ix (K := K)) (pv 1) pe_int (fun _ _ => rfl)) pa_nil)) pa_nil)) (pg_name (i := 6) sc_law.nd rfl (by first | exact Or.inl rfl | exact Or.inr rfl))
      (pss_cons (ps_set (i := 7) sc_law.nd rfl (by first | exact Or.inl rfl | exact Or.inr rfl) (pe_call (ok_u_law_use T) (hr.mono (by decide)) (by rfl) T.g_u_law_use T.F_u_law_use.kp T.b_u_law_use .nil pass0 (pa_cons (pv 1) (pa_cons (pv 6) (pa_cons (pe_call (ok_u_law_numbered T) (hr.mono (by decide)) (by rfl) T.g_u_law_numbered T.F_u_law_numbered.kp T.b_u_law_numbered .nil pass0 (pa_cons (pv 4) pa_nil)) pa_nil)))))
      (pss_cons (ps_set (i := 8) sc_law.nd rfl (by first | exact Or.inl rfl | exact Or.inr rfl) (pe_call (ok_use T) (hr.mono (by decide)) (by rfl) T.g_use T.F_use.kp T.b_use .nil pass0 (pa_cons (pv 1) (pa_cons (pv 6) (pa_cons (pv 4) pa_nil)))))
      (pss_cons (ps_if (PW.pt (pw_or (pt_not (pt_val (pe_call (ok_u_law_is_integer T) (hr.mono (by decide)) (by rfl) T.g_u_law_is_integer T.F_u_law_is_integer.kp T.b_u_law_is_integer .nil pass0 (pa_cons (pv 8) pa_nil)))) (pw_or1 (pt_cmpR (kx_ne (K := K) hr.units) (pe_tup (pa_cons (pv 8) (pa_cons pe_int pa_nil))) (pv 7) (nomark _))))) (pss_one (ps_ret pe_bl)) pss_nil)
      (pss_cons (ps_set (i := 8) sc_law.nd rfl (by first | exact Or.inl rfl | exact Or.inr rfl) (pe_call (ok_use T) (hr.mono (by decide)) (by rfl) T.g_use T.F_use.kp T.b_use .nil pass0 (pa_cons (pv 1) (pa_cons (pv 6) (pa_cons (pe_callTy (kx_tuple (K := K)) (by rfl) T.z_tuple (by decide +kernel) (pa_cons (pv 5) pa_nil)) pa_nil)))))
      (pss_one (ps_if (PW.pt (pw_or (pt_not (pt_val (pe_call (ok_u_law_is_number T) (hr.mono (by decide)) (by rfl) T.g_u_law_is_number T.F_u_law_is_number.kp T.b_u_law_is_number .nil pass0 (pa_cons (pv 8) pa_nil)))) (pw_or1 (pt_cmpR (kx_ne (K := K) hr.units) (pv 8) (pe_call (ok_u_law_use T) (hr.mono (by decide)) (by rfl) T.g_u_law_use T.F_u_law_use.kp T.b_u_law_use .nil pass0 (pa_cons (pv 1) (pa_cons (pv 6) (pa_cons (pe_callTy (kx_tuple (K := K)) (by rfl) T.z_tuple (by decide +kernel) (pa_cons (pv 5) pa_nil)) pa_nil)))) (nomark _))))) (pss_one (ps_ret pe_bl)) pss_nil)))))))
      (pss_one (ps_ret pe_bl))))))))), ?_⟩)
  all_goals (try simp only [nox_K, blk_K, cx_K])
  · rintro ds d ⟨ns, rfl, _⟩; rfl
  · rintro ds d ⟨ns, rfl, hl, rfl⟩
    have c13 : R_cell [.list (ns.map PyData.int), .int 13] (.int (ns.getD 13 0)) := ⟨ns, 13, rfl, rfl⟩
    have p13 : R_parts [.int (ns.getD 13 0), .list (szU.map PyData.int)] (.list ((partsOf (ns.getD 13 0) szU).map PyData.int)) := ⟨_, _, rfl, sizes_ok (by decide +kernel), by decide, rfl⟩
    have l13 : (partsOf (ns.getD 13 0) szU).length = 28 := parts_len _ _
    have g13 : ∀ k, k < 7 → (0 ≤ (partsOf (ns.getD 13 0) szU).getD (4 * k) 0 ∧ (partsOf (ns.getD 13 0) szU).getD (4 * k) 0 < 9) ∧ (0 ≤ (partsOf (ns.getD 13 0) szU).getD (4 * k + 1) 0 ∧ (partsOf (ns.getD 13 0) szU).getD (4 * k + 1) 0 < 4) ∧ (0 ≤ (partsOf (ns.getD 13 0) szU).getD (4 * k + 2) 0 ∧ (partsOf (ns.getD 13 0) szU).getD (4 * k + 2) 0 < 9) ∧ (0 ≤ (partsOf (ns.getD 13 0) szU).getD (4 * k + 3) 0 ∧ (partsOf (ns.getD 13 0) szU).getD (4 * k + 3) 0 < 4) := fun k hk => by
      obtain ⟨a1, a2, a3, a4⟩ := szU_at k hk
      exact ⟨parts_get _ a1 (by decide), parts_get _ a2 (by decide), parts_get _ a3 (by decide), parts_get _ a4 (by decide)⟩
    generalize partsOf (ns.getD 13 0) szU = Q at *
    refine wp_seq (wp_asgP (ep_call (ds := [.list (ns.map PyData.int), .int 2, .int 2, .bool false]) (by walk_at "ev") ⟨ns, 2, 2, false, rfl, by decide, by decide⟩) fun d hd => ?_)
    obtain ⟨ps, ms, pins, rfl, fok, pl1, pl2, ml, pnl, _⟩ := hd ns 2 2 false rfl
    have ml : ms.length ≤ 15 := ml
    have fi : FrI ps ms := fok.i
    refine wp_seq (wp_asg (d := .int (ps.length : Nat)) (ED.of (d := .int ((ps.map numV).length : Nat)) (by repeat' first | walk_at "ev2" | fail) (by rw [List.length_map])) ?_)
    refine wp_seq (wp_asg (d := .list (Q.map PyData.int)) (by repeat' first | walk_at "ev2" | exact c13 | exact p13 | (show -(2 ^ 63) ≤ _ ∧ _; decide) | fail) ?_)
    have qk : ∀ k, k < ps.length → itemD (.list (Q.map PyData.int)) (4 * (k : Int)) = some (.int (Q.getD (4 * k) 0)) ∧ itemD (.list (Q.map PyData.int)) (4 * (k : Int) + 1) = some (.int (Q.getD (4 * k + 1) 0)) ∧ itemD (.list (Q.map PyData.int)) (4 * (k : Int) + 2) = some (.int (Q.getD (4 * k + 2) 0)) ∧ itemD (.list (Q.map PyData.int)) (4 * (k : Int) + 3) = some (.int (Q.getD (4 * k + 3) 0)) := fun k hk => by
      have i1 : itemD (.list (Q.map PyData.int)) ((4 * k : Nat) : Int) = some (.int (Q.getD (4 * k) 0)) := at_int (by omega)
      have i2 : itemD (.list (Q.map PyData.int)) ((4 * k + 1 : Nat) : Int) = some (.int (Q.getD (4 * k + 1) 0)) := at_int (by omega)
      have i3 : itemD (.list (Q.map PyData.int)) ((4 * k + 2 : Nat) : Int) = some (.int (Q.getD (4 * k + 2) 0)) := at_int (by omega)
      have i4 : itemD (.list (Q.map PyData.int)) ((4 * k + 3 : Nat) : Int) = some (.int (Q.getD (4 * k + 3) 0)) := at_int (by omega)
      rw [show ((4 * k : Nat) : Int) = 4 * (k : Int) by omega] at i1
      rw [show ((4 * k + 1 : Nat) : Int) = 4 * (k : Int) + 1 by omega] at i2
      rw [show ((4 * k + 2 : Nat) : Int) = 4 * (k : Int) + 2 by omega] at i3
      rw [show ((4 * k + 3 : Nat) : Int) = 4 * (k : Int) + 3 by omega] at i4
      exact ⟨i1, i2, i3, i4⟩
    let M1 : List (Int × Int) := (List.range ps.length).map fun k => (Q.getD (4 * k) 0 - 4, Q.getD (4 * k + 2) 0 - 4)
    have hM1 : M1 = (List.range ps.length).map fun k => (Q.getD (4 * k) 0 - 4, Q.getD (4 * k + 2) 0 - 4) := rfl
    have lM1 : M1.length = ps.length := by rw [hM1, List.length_map, List.length_range]
    have gM1 : ∀ k, k < ps.length → M1.getD k (0, 0) = (Q.getD (4 * k) 0 - 4, Q.getD (4 * k + 2) 0 - 4) := fun k hk => getD_of (by rw [hM1, List.getElem?_map, List.getElem?_range hk]; rfl)
    have rl : (List.range ps.length).length ≤ sizeLine := sz_small (by rw [List.length_range]; omega)
    refine wp_seq (wp_asg (d := .tuple (M1.map numV)) (ed_tupleOf (x := .list (M1.map numV)) (ED.of (EN.ed (en_lcA (xs := List.range ps.length) (gd := fun k => PyData.int (k : Nat)) (f := fun k => numV (Q.getD (4 * k) 0 - 4, Q.getD (4 * k + 2) 0 - 4)) (ei_rngN (ed_var rfl) rfl (by omega)) rl (fun p hp => gw_name (by decide)) fun k hk => ?_)) (by rw [hM1, List.map_map]; rfl)) rfl) ?_)
    · have hk := List.mem_range.mp hk
      obtain ⟨i1, i2, i3, i4⟩ := qk k hk
      refine ED.of (d := .tuple [.int (Q.getD (4 * k) 0 - 4), .int (Q.getD (4 * k + 2) 0 - 4)]) (by repeat' first | walk_at "ev2" | exact i1 | exact i3 | exact mulL (by decide) | fail) rfl
    have bM1 : ∀ v ∈ M1, -4 ≤ v.1 ∧ v.1 ≤ 4 ∧ -4 ≤ v.2 ∧ v.2 ≤ 4 := fun v hv => by
      obtain ⟨k, hk, rfl⟩ := List.mem_map.mp hv
      have hk := List.mem_range.mp hk
      obtain ⟨b1, b2, b3, b4⟩ := g13 k (by omega)
      exact ⟨by show _ ≤ _ - (4 : Int); omega, by show _ - (4 : Int) ≤ _; omega, by show _ ≤ _ - (4 : Int); omega, by show _ - (4 : Int) ≤ _; omega⟩
    have vM1 : VsI M1 := fun v h => by
      obtain ⟨a1, a2, a3, a4⟩ := bM1 v h
      exact ⟨lt_small a1 a2 (by decide), lt_small a3 a4 (by decide)⟩
    have bM1' : ∀ v ∈ M1, Lt 200 v.1 ∧ Lt 200 v.2 := fun v h => by
      obtain ⟨a1, a2, a3, a4⟩ := bM1 v h
      exact ⟨lt_small a1 a2 (by decide), lt_small a3 a4 (by decide)⟩
    refine wp_seq (wp_asgN (by walk_at "ev") ?_)
    refine wp_seq (wp_cut (fun δ => ∃ (ws : List (Rat × Rat)) (a b c : SV), δ = [.val (.list (ns.map PyData.int)), .val (frameV ps ms pins), .val (.int (ps.length : Nat)), .val (.list (Q.map PyData.int)), .val (.tuple (M1.map numV)), .own (.l (ws.map wV)), a, b, c] ∧ ws.length = ps.length ∧ WsI 200 ws)
      (wp_forG (xs := List.range ps.length) (g := fun k => PyData.int (k : Nat)) (fun k δ => ∃ (ws : List (Rat × Rat)) (a b c : SV), δ = [.val (.list (ns.map PyData.int)), .val (frameV ps ms pins), .val (.int (ps.length : Nat)), .val (.list (Q.map PyData.int)), .val (.tuple (M1.map numV)), .own (.l (ws.map wV)), a, b, c] ∧ ws.length = k ∧ WsI 200 ws)
        (by repeat' first | walk_at "ev2" | (show (_ : Nat) ≤ _; omega) | fail) ⟨[], _, _, _, rfl, rfl, fun p hp => (by cases hp)⟩ ?_ ?_) ?_)
    · rintro k x δ ex ⟨ws, a, b, c, rfl, wl, wb⟩
      have hk : k < ps.length := by
        have := (List.getElem?_eq_some_iff.mp ex).1
        rwa [List.length_range] at this
      have : x = k := by
        rw [List.getElem?_range hk] at ex
        exact (Option.some.inj ex).symm
      subst this
      obtain ⟨i1, i2, i3, i4⟩ := qk x hk
      obtain ⟨b1, b2, b3, b4⟩ := g13 x (by omega)
      have am : itemD (.tuple (M1.map numV)) (x : Nat) = some (numV (Q.getD (4 * x) 0 - 4, Q.getD (4 * x + 2) 0 - 4)) := by
        rw [← gM1 x hk]; exact at_tup (by omega)
      have z1 : 1 + Q.getD (4 * x + 1) 0 ≠ 0 := by omega
      have z3 : 1 + Q.getD (4 * x + 3) 0 ≠ 0 := by omega
      have e1 : Lt 100 (Q.getD (4 * x) 0 - 4) := lt_small (b := 10) (by omega) (by omega) (by decide)
      have e2 : Lt 100 (1 + Q.getD (4 * x + 1) 0) := lt_small (b := 10) (by omega) (by omega) (by decide)
      have e3 : Lt 100 (Q.getD (4 * x + 2) 0 - 4) := lt_small (b := 10) (by omega) (by omega) (by decide)
      have e4 : Lt 100 (1 + Q.getD (4 * x + 3) 0) := lt_small (b := 10) (by omega) (by omega) (by decide)
      have n1 := R_lnumber_q z1 e1.mono e2.mono
      have n2 := R_lnumber_q z3 e3.mono e4.mono
      have s1 := (Sz.of z1 e1 e2).mono (b := 200)
      have s2 := (Sz.of z3 e3 e4).mono (b := 200)
      generalize (((Q.getD (4 * x) 0 - 4 : Int) : Rat) / ((1 + Q.getD (4 * x + 1) 0 : Int) : Rat)) = r1 at *
      generalize (((Q.getD (4 * x + 2) 0 - 4 : Int) : Rat) / ((1 + Q.getD (4 * x + 3) 0 : Int) : Rat)) = r2 at *
      refine wp_app (d := wV (r1, r2)) rfl (ED.of (d := .tuple [qV r1, qV r2]) (by repeat' first | walk_at "ev2" | exact am | exact i2 | exact i4 | exact n1 | exact n2 | exact mulL (by decide) | fail) rfl) (by rw [List.length_map]; exact small1000 (by omega)) ?_
      refine ⟨ws ++ [(r1, r2)], _, _, _, by rw [List.map_append]; rfl, by rw [List.length_append, wl]; rfl, fun p hp => ?_⟩
      rcases List.mem_append.mp hp with z | z
      · exact wb p z
      · rw [List.mem_singleton.mp z]; exact ⟨s1, s2⟩
    · rintro δ ⟨ws, a, b, c, rfl, wl, wb⟩
      rw [List.length_range] at wl
      exact ⟨ws, _, _, _, rfl, wl, wb⟩
    · rintro δ ⟨ws, a, b, c, rfl, wl, wb⟩
      clear g13 qk gM1 hM1 bM1 c13 p13 l13
      refine wp_freeze 5 rfl ?_
      have mok : WsI 200 (M1.map toQ) := fun v hv => by
        obtain ⟨u, hu, rfl⟩ := List.mem_map.mp hv
        exact ⟨Sz.int ((bM1' u hu).1), Sz.int ((bM1' u hu).2)⟩
      refine wp_seq (wp_forG (xs := List.range ms.length) (g := fun k => PyData.int (k : Nat)) (fun k δ => ∃ (a b c : SV), δ = [.val (.list (ns.map PyData.int)), .val (frameV ps ms pins), .val (.int (ps.length : Nat)), .val (.list (Q.map PyData.int)), .val (.tuple (M1.map numV)), .val (.list (ws.map wV)), a, b, c])
        (ei_rngN (i := ((ms.map memV).length : Nat)) (by repeat' first | walk_at "ev2" | fail) (by rw [List.length_map]) (by omega)) ⟨_, _, _, rfl⟩ ?_ ?_)
      · rintro k x δ ex ⟨a, b, c, rfl⟩
        have hk : k < ms.length := by
          have := (List.getElem?_eq_some_iff.mp ex).1
          rwa [List.length_range] at this
        have : x = k := by
          rw [List.getElem?_range hk] at ex
          exact (Option.some.inj ex).symm
        subst this
        have nd : R_lnumd [.tuple (M1.map numV)] (.tuple ((M1.map toQ).map wV)) := ⟨M1, rfl, by omega, rfl⟩
        obtain ⟨h1, h2, _⟩ := fi.mi (ms.getD x default) (mem_getD hk)
        have u1 : R_luse [frameV ps ms pins, .int (x : Nat), .tuple ((M1.map toQ).map wV)] (qV (usedQ (growQ ps (ms.getD x default) (M1.map toQ)) (ms.getD x default).pull (ms.getD x default).push)) := ⟨⟨ps, ms, pins, M1.map toQ, x⟩, rfl, ⟨fi, mok, by rw [List.length_map]; exact lM1, hk⟩, rfl⟩
        have u2 : R_use [frameV ps ms pins, .int (x : Nat), .tuple (M1.map numV)] (.int (usedI (growM ps (ms.getD x default) M1) (ms.getD x default).pull (ms.getD x default).push)) := .inl ⟨⟨ps, ms, pins, M1, x⟩, rfl, ⟨fi, vM1, lM1, hk⟩, rfl⟩
        have u3 : R_use [frameV ps ms pins, .int (x : Nat), .tuple (ws.map wV)] (qV (usedQ (growQ ps (ms.getD x default) ws) (ms.getD x default).pull (ms.getD x default).push)) := .inr ⟨⟨ps, ms, pins, ws, x⟩, rfl, ⟨fi, wb, wl, hk⟩, rfl⟩
        have u4 : R_luse [frameV ps ms pins, .int (x : Nat), .tuple (ws.map wV)] (qV (usedQ (growQ ps (ms.getD x default) ws) (ms.getD x default).pull (ms.getD x default).push)) := ⟨⟨ps, ms, pins, ws, x⟩, rfl, ⟨fi, wb, wl, hk⟩, rfl⟩
        have gz := growQ_sz fi (mem_getD (d := default) hk) wb wl
        rw [growQ_int (by omega) (by omega), usedQ_int] at u1
        have uz : Sz 1900 (usedQ (growQ ps (ms.getD x default) ws) (ms.getD x default).pull (ms.getD x default).push) := by
          unfold usedQ
          split
          · exact gz.mono
          · split
            · exact gz.neg.mono
            · exact Sz.int (n := 0) (by unfold Lt; decide)
        generalize usedQ (growQ ps (ms.getD x default) ws) (ms.getD x default).pull (ms.getD x default).push = U at *
        generalize usedI (growM ps (ms.getD x default) M1) (ms.getD x default).pull (ms.getD x default).push = u at *
        have ii : R_isInt [.int u] (.bool true) := ⟨_, rfl, rfl⟩
        have iq : R_lisnum [qV U] (.bool true) := ⟨_, rfl, uz, rfl⟩
        refine wp_seq (wp_asg (d := qV (u : Rat)) (by repeat' first | walk_at "ev2" | exact nd | exact u1 | fail) ?_)
        refine wp_seq (wp_asg (d := .int u) (by repeat' first | walk_at "ev2" | exact u2 | fail) ?_)
        refine wp_seq (wp_if (b := false) (ET.of (et_or (a := false) (b := !PyData.eqv (.tuple [.int u, .int 1]) (qV (u : Rat))) (ET.of (by repeat' first | walk_at "ev2" | exact ii | fail) (by rfl)) (fun _ => by repeat' first | walk_at "ev2" | exact Shp.shaped (n := 1) shp_num | fail)) (by
          rw [show PyData.tuple [.int u, .int 1] = qV (u : Rat) from qV_int u, eqv_q, decide_eq_true rfl]; rfl)) (fun h => nomatch h) (fun _ => wp_next ?_))
        refine wp_seq (wp_asg (d := qV U) (ed_call (ds := [frameV ps ms pins, .int (x : Nat), .tuple (ws.map wV)]) (ea_cons (ed_var rfl) (ea_cons (ed_var rfl) (ea_cons (ed_tupleOf (ed_var rfl) rfl) ea_nil))) u3) ?_)
        refine wp_if (b := false) (ET.of (et_or (a := false) (b := !PyData.eqv (qV U) (qV U)) (ET.of (by repeat' first | walk_at "ev2" | exact iq | fail) (by rfl)) (fun _ => et_test (ed_neD (ed_var rfl) (ed_call (ds := [frameV ps ms pins, .int (x : Nat), .tuple (ws.map wV)]) (ea_cons (ed_var rfl) (ea_cons (ed_var rfl) (ea_cons (ed_tupleOf (ed_var rfl) rfl) ea_nil))) u4) (Shp.shaped (n := 1) shp_num) (Shp.shaped (n := 1) shp_num) rfl))) (by
          rw [eqv_q, decide_eq_true rfl]; rfl)) (fun h => nomatch h) (fun _ => wp_next ⟨_, _, _, rfl⟩)
      · rintro δ ⟨a, b, c, rfl⟩
        exact wp_ret ed_bl rfl

end
instance noTabs : TabEnv := ⟨[], fun p mp => by cases mp⟩
theorem law_end {K : PySem.W.Frag} {H : Hp} {a : Addr} {ns : List Int} (hl : ns.length ≤ 63) (hS : SqL K H a (ns.map V.int)) : spD K R_law [.ref a] H (fun v _ => v = .bl true) (fun _ _ _ => False) :=
  ⟨H, [.list (ns.map PyData.int)], .bool true, ⟨ns, rfl, hl, rfl⟩, ⟨Sam.refl _, fun p mp => by cases mp⟩, .cons (.lst hS DqAll.ofInts) .nil, fun _ _ _ _ dv => Dq.bool_inv dv⟩
theorem all_mk {l : PySem.W.OpenLaw} {w : World} {K : PySem.W.Frag} {h : Heap} {mg : Str → Option Value} {fa : Addr} (X : K.In h) (G : h.Ns mainGlobals mg) (hfa : mg "law" = some (.ref fa))
    {f0 f1 f2 f3 f4 f5 f6 f7 f8 f9 f10 f11 f12 f13 f14 f15 f16 f17 f18 f19 f20 f21 f22 f23 : Addr}
    {od0 an0 : Option Addr} {sl0 : Array (Option Value)} {oc0 kV0 dc0 pm0 cd0 ct0 : Value}
    {od1 an1 : Option Addr} {sl1 : Array (Option Value)} {oc1 kV1 dc1 pm1 cd1 ct1 : Value}
    {od2 an2 : Option Addr} {sl2 : Array (Option Value)} {oc2 kV2 dc2 pm2 cd2 ct2 : Value}
    {od3 an3 : Option Addr} {sl3 : Array (Option Value)} {oc3 kV3 dc3 pm3 cd3 ct3 : Value}
    {od4 an4 : Option Addr} {sl4 : Array (Option Value)} {oc4 kV4 dc4 pm4 cd4 ct4 : Value}
    {od5 an5 : Option Addr} {sl5 : Array (Option Value)} {oc5 kV5 dc5 pm5 cd5 ct5 : Value}
    {od6 an6 : Option Addr} {sl6 : Array (Option Value)} {oc6 kV6 dc6 pm6 cd6 ct6 : Value}
    {od7 an7 : Option Addr} {sl7 : Array (Option Value)} {oc7 kV7 dc7 pm7 cd7 ct7 : Value}
    {od8 an8 : Option Addr} {sl8 : Array (Option Value)} {oc8 kV8 dc8 pm8 cd8 ct8 : Value}
    {od9 an9 : Option Addr} {sl9 : Array (Option Value)} {oc9 kV9 dc9 pm9 cd9 ct9 : Value}
    {od10 an10 : Option Addr} {sl10 : Array (Option Value)} {oc10 kV10 dc10 pm10 cd10 ct10 : Value}
    {od11 an11 : Option Addr} {sl11 : Array (Option Value)} {oc11 kV11 dc11 pm11 cd11 ct11 : Value}
    {od12 an12 : Option Addr} {sl12 : Array (Option Value)} {oc12 kV12 dc12 pm12 cd12 ct12 : Value}
    {od13 an13 : Option Addr} {sl13 : Array (Option Value)} {oc13 kV13 dc13 pm13 cd13 ct13 : Value}
    {od14 an14 : Option Addr} {sl14 : Array (Option Value)} {oc14 kV14 dc14 pm14 cd14 ct14 : Value}
    {od15 an15 : Option Addr} {sl15 : Array (Option Value)} {oc15 kV15 dc15 pm15 cd15 ct15 : Value}
    {od16 an16 : Option Addr} {sl16 : Array (Option Value)} {oc16 kV16 dc16 pm16 cd16 ct16 : Value}
    {od17 an17 : Option Addr} {sl17 : Array (Option Value)} {oc17 kV17 dc17 pm17 cd17 ct17 : Value}
    {od18 an18 : Option Addr} {sl18 : Array (Option Value)} {oc18 kV18 dc18 pm18 cd18 ct18 : Value}
    {od19 an19 : Option Addr} {sl19 : Array (Option Value)} {oc19 kV19 dc19 pm19 cd19 ct19 : Value}
    {od20 an20 : Option Addr} {sl20 : Array (Option Value)} {oc20 kV20 dc20 pm20 cd20 ct20 : Value}
    {od21 an21 : Option Addr} {sl21 : Array (Option Value)} {oc21 kV21 dc21 pm21 cd21 ct21 : Value}
    {od22 an22 : Option Addr} {sl22 : Array (Option Value)} {oc22 kV22 dc22 pm22 cd22 ct22 : Value}
    {od23 an23 : Option Addr} {sl23 : Array (Option Value)} {oc23 kV23 dc23 pm23 cd23 ct23 : Value}
    (a0 : PySem.W.nsIn K mainGlobals "number" = some (some (.ref f0))) (l0 : K.lookup f0 = some ⟨oc0, od0, .func (PySem.W.fnOf "number" "number" (defArgs s_number) (defBody s_number) (defScope s_number) .none kV0 dc0 pm0 an0 cd0 ct0), sl0⟩) (c0 : PySem.W.codeIn K cd0 "number" = true) (k0 : PySem.W.keepIn K (.ref f0) = true)
    (a1 : PySem.W.nsIn K mainGlobals "plus" = some (some (.ref f1))) (l1 : K.lookup f1 = some ⟨oc1, od1, .func (PySem.W.fnOf "plus" "plus" (defArgs s_plus) (defBody s_plus) (defScope s_plus) .none kV1 dc1 pm1 an1 cd1 ct1), sl1⟩) (c1 : PySem.W.codeIn K cd1 "plus" = true) (k1 : PySem.W.keepIn K (.ref f1) = true)
    (a2 : PySem.W.nsIn K mainGlobals "minus" = some (some (.ref f2))) (l2 : K.lookup f2 = some ⟨oc2, od2, .func (PySem.W.fnOf "minus" "minus" (defArgs s_minus) (defBody s_minus) (defScope s_minus) .none kV2 dc2 pm2 an2 cd2 ct2), sl2⟩) (c2 : PySem.W.codeIn K cd2 "minus" = true) (k2 : PySem.W.keepIn K (.ref f2) = true)
    (a3 : PySem.W.nsIn K mainGlobals "times" = some (some (.ref f3))) (l3 : K.lookup f3 = some ⟨oc3, od3, .func (PySem.W.fnOf "times" "times" (defArgs s_times) (defBody s_times) (defScope s_times) .none kV3 dc3 pm3 an3 cd3 ct3), sl3⟩) (c3 : PySem.W.codeIn K cd3 "times" = true) (k3 : PySem.W.keepIn K (.ref f3) = true)
    (a4 : PySem.W.nsIn K mainGlobals "dotted" = some (some (.ref f4))) (l4 : K.lookup f4 = some ⟨oc4, od4, .func (PySem.W.fnOf "dotted" "dotted" (defArgs s_dotted) (defBody s_dotted) (defScope s_dotted) .none kV4 dc4 pm4 an4 cd4 ct4), sl4⟩) (c4 : PySem.W.codeIn K cd4 "dotted" = true) (k4 : PySem.W.keepIn K (.ref f4) = true)
    (a5 : PySem.W.nsIn K mainGlobals "growth" = some (some (.ref f5))) (l5 : K.lookup f5 = some ⟨oc5, od5, .func (PySem.W.fnOf "growth" "growth" (defArgs s_growth) (defBody s_growth) (defScope s_growth) .none kV5 dc5 pm5 an5 cd5 ct5), sl5⟩) (c5 : PySem.W.codeIn K cd5 "growth" = true) (k5 : PySem.W.keepIn K (.ref f5) = true)
    (a6 : PySem.W.nsIn K mainGlobals "is_of_numbers" = some (some (.ref f6))) (l6 : K.lookup f6 = some ⟨oc6, od6, .func (PySem.W.fnOf "is_of_numbers" "is_of_numbers" (defArgs s_is_of_numbers) (defBody s_is_of_numbers) (defScope s_is_of_numbers) .none kV6 dc6 pm6 an6 cd6 ct6), sl6⟩) (c6 : PySem.W.codeIn K cd6 "is_of_numbers" = true) (k6 : PySem.W.keepIn K (.ref f6) = true)
    (a7 : PySem.W.nsIn K mainGlobals "use" = some (some (.ref f7))) (l7 : K.lookup f7 = some ⟨oc7, od7, .func (PySem.W.fnOf "use" "use" (defArgs s_use) (defBody s_use) (defScope s_use) .none kV7 dc7 pm7 an7 cd7 ct7), sl7⟩) (c7 : PySem.W.codeIn K cd7 "use" = true) (k7 : PySem.W.keepIn K (.ref f7) = true)
    (a8 : PySem.W.nsIn K mainGlobals "used" = some (some (.ref f8))) (l8 : K.lookup f8 = some ⟨oc8, od8, .func (PySem.W.fnOf "used" "used" (defArgs s_used) (defBody s_used) (defScope s_used) .none kV8 dc8 pm8 an8 cd8 ct8), sl8⟩) (c8 : PySem.W.codeIn K cd8 "used" = true) (k8 : PySem.W.keepIn K (.ref f8) = true)
    (a9 : PySem.W.nsIn K mainGlobals "_law_cell" = some (some (.ref f9))) (l9 : K.lookup f9 = some ⟨oc9, od9, .func (PySem.W.fnOf "_law_cell" "_law_cell" (defArgs s_u_law_cell) (defBody s_u_law_cell) (defScope s_u_law_cell) .none kV9 dc9 pm9 an9 cd9 ct9), sl9⟩) (c9 : PySem.W.codeIn K cd9 "_law_cell" = true) (k9 : PySem.W.keepIn K (.ref f9) = true)
    (a10 : PySem.W.nsIn K mainGlobals "_law_parts" = some (some (.ref f10))) (l10 : K.lookup f10 = some ⟨oc10, od10, .func (PySem.W.fnOf "_law_parts" "_law_parts" (defArgs s_u_law_parts) (defBody s_u_law_parts) (defScope s_u_law_parts) .none kV10 dc10 pm10 an10 cd10 ct10), sl10⟩) (c10 : PySem.W.codeIn K cd10 "_law_parts" = true) (k10 : PySem.W.keepIn K (.ref f10) = true)
    (a11 : PySem.W.nsIn K mainGlobals "_law_is_integer" = some (some (.ref f11))) (l11 : K.lookup f11 = some ⟨oc11, od11, .func (PySem.W.fnOf "_law_is_integer" "_law_is_integer" (defArgs s_u_law_is_integer) (defBody s_u_law_is_integer) (defScope s_u_law_is_integer) .none kV11 dc11 pm11 an11 cd11 ct11), sl11⟩) (c11 : PySem.W.codeIn K cd11 "_law_is_integer" = true) (k11 : PySem.W.keepIn K (.ref f11) = true)
    (a12 : PySem.W.nsIn K mainGlobals "_law_divisor" = some (some (.ref f12))) (l12 : K.lookup f12 = some ⟨oc12, od12, .func (PySem.W.fnOf "_law_divisor" "_law_divisor" (defArgs s_u_law_divisor) (defBody s_u_law_divisor) (defScope s_u_law_divisor) .none kV12 dc12 pm12 an12 cd12 ct12), sl12⟩) (c12 : PySem.W.codeIn K cd12 "_law_divisor" = true) (k12 : PySem.W.keepIn K (.ref f12) = true)
    (a13 : PySem.W.nsIn K mainGlobals "_law_number" = some (some (.ref f13))) (l13 : K.lookup f13 = some ⟨oc13, od13, .func (PySem.W.fnOf "_law_number" "_law_number" (defArgs s_u_law_number) (defBody s_u_law_number) (defScope s_u_law_number) .none kV13 dc13 pm13 an13 cd13 ct13), sl13⟩) (c13 : PySem.W.codeIn K cd13 "_law_number" = true) (k13 : PySem.W.keepIn K (.ref f13) = true)
    (a14 : PySem.W.nsIn K mainGlobals "_law_plus" = some (some (.ref f14))) (l14 : K.lookup f14 = some ⟨oc14, od14, .func (PySem.W.fnOf "_law_plus" "_law_plus" (defArgs s_u_law_plus) (defBody s_u_law_plus) (defScope s_u_law_plus) .none kV14 dc14 pm14 an14 cd14 ct14), sl14⟩) (c14 : PySem.W.codeIn K cd14 "_law_plus" = true) (k14 : PySem.W.keepIn K (.ref f14) = true)
    (a15 : PySem.W.nsIn K mainGlobals "_law_times" = some (some (.ref f15))) (l15 : K.lookup f15 = some ⟨oc15, od15, .func (PySem.W.fnOf "_law_times" "_law_times" (defArgs s_u_law_times) (defBody s_u_law_times) (defScope s_u_law_times) .none kV15 dc15 pm15 an15 cd15 ct15), sl15⟩) (c15 : PySem.W.codeIn K cd15 "_law_times" = true) (k15 : PySem.W.keepIn K (.ref f15) = true)
    (a16 : PySem.W.nsIn K mainGlobals "_law_is_number" = some (some (.ref f16))) (l16 : K.lookup f16 = some ⟨oc16, od16, .func (PySem.W.fnOf "_law_is_number" "_law_is_number" (defArgs s_u_law_is_number) (defBody s_u_law_is_number) (defScope s_u_law_is_number) .none kV16 dc16 pm16 an16 cd16 ct16), sl16⟩) (c16 : PySem.W.codeIn K cd16 "_law_is_number" = true) (k16 : PySem.W.keepIn K (.ref f16) = true)
    (a17 : PySem.W.nsIn K mainGlobals "_law_points" = some (some (.ref f17))) (l17 : K.lookup f17 = some ⟨oc17, od17, .func (PySem.W.fnOf "_law_points" "_law_points" (defArgs s_u_law_points) (defBody s_u_law_points) (defScope s_u_law_points) .none kV17 dc17 pm17 an17 cd17 ct17), sl17⟩) (c17 : PySem.W.codeIn K cd17 "_law_points" = true) (k17 : PySem.W.keepIn K (.ref f17) = true)
    (a18 : PySem.W.nsIn K mainGlobals "_law_limits" = some (some (.ref f18))) (l18 : K.lookup f18 = some ⟨oc18, od18, .func (PySem.W.fnOf "_law_limits" "_law_limits" (defArgs s_u_law_limits) (defBody s_u_law_limits) (defScope s_u_law_limits) .none kV18 dc18 pm18 an18 cd18 ct18), sl18⟩) (c18 : PySem.W.codeIn K cd18 "_law_limits" = true) (k18 : PySem.W.keepIn K (.ref f18) = true)
    (a19 : PySem.W.nsIn K mainGlobals "_law_members" = some (some (.ref f19))) (l19 : K.lookup f19 = some ⟨oc19, od19, .func (PySem.W.fnOf "_law_members" "_law_members" (defArgs s_u_law_members) (defBody s_u_law_members) (defScope s_u_law_members) .none kV19 dc19 pm19 an19 cd19 ct19), sl19⟩) (c19 : PySem.W.codeIn K cd19 "_law_members" = true) (k19 : PySem.W.keepIn K (.ref f19) = true)
    (a20 : PySem.W.nsIn K mainGlobals "_law_frame" = some (some (.ref f20))) (l20 : K.lookup f20 = some ⟨oc20, od20, .func (PySem.W.fnOf "_law_frame" "_law_frame" (defArgs s_u_law_frame) (defBody s_u_law_frame) (defScope s_u_law_frame) .none kV20 dc20 pm20 an20 cd20 ct20), sl20⟩) (c20 : PySem.W.codeIn K cd20 "_law_frame" = true) (k20 : PySem.W.keepIn K (.ref f20) = true)
    (a21 : PySem.W.nsIn K mainGlobals "_law_use" = some (some (.ref f21))) (l21 : K.lookup f21 = some ⟨oc21, od21, .func (PySem.W.fnOf "_law_use" "_law_use" (defArgs s_u_law_use) (defBody s_u_law_use) (defScope s_u_law_use) .none kV21 dc21 pm21 an21 cd21 ct21), sl21⟩) (c21 : PySem.W.codeIn K cd21 "_law_use" = true) (k21 : PySem.W.keepIn K (.ref f21) = true)
    (a22 : PySem.W.nsIn K mainGlobals "_law_numbered" = some (some (.ref f22))) (l22 : K.lookup f22 = some ⟨oc22, od22, .func (PySem.W.fnOf "_law_numbered" "_law_numbered" (defArgs s_u_law_numbered) (defBody s_u_law_numbered) (defScope s_u_law_numbered) .none kV22 dc22 pm22 an22 cd22 ct22), sl22⟩) (c22 : PySem.W.codeIn K cd22 "_law_numbered" = true) (k22 : PySem.W.keepIn K (.ref f22) = true)
    (a23 : PySem.W.nsIn K mainGlobals "law" = some (some (.ref f23))) (l23 : K.lookup f23 = some ⟨oc23, od23, .func (PySem.W.fnOf "law" "law" (defArgs s_law) (defBody s_law) (defScope s_law) .none kV23 dc23 pm23 an23 cd23 ct23), sl23⟩) (c23 : PySem.W.codeIn K cd23 "law" = true) (k23 : PySem.W.keepIn K (.ref f23) = true)
    (z_abs : PySem.W.nsIn K mainGlobals "abs" = some none)
    (z_bool : PySem.W.nsIn K mainGlobals "bool" = some none)
    (z_int : PySem.W.nsIn K mainGlobals "int" = some none)
    (z_isinstance : PySem.W.nsIn K mainGlobals "isinstance" = some none)
    (z_len : PySem.W.nsIn K mainGlobals "len" = some none)
    (z_range : PySem.W.nsIn K mainGlobals "range" = some none)
    (z_set : PySem.W.nsIn K mainGlobals "set" = some none)
    (z_sorted : PySem.W.nsIn K mainGlobals "sorted" = some none)
    (z_tuple : PySem.W.nsIn K mainGlobals "tuple" = some none)
    (i_gcd : PySem.W.nsIn K mainGlobals "gcd" = some (some (.builtin "math.gcd")))
    : ∃ fd : FuncData, (∀ (s : Shared) (v : Value), BindsTo s fd ⟨[v], []⟩ [("script", v)]) ∧ ∀ base : Heap, K.In base → base.Ns mainGlobals mg → FnOk l.prog w K mg base CX0 6 fa fd ["script"] (spD K R_law) := by
  have e2 : f23 = fa := by
    have e := hfa.symm.trans (PySem.W.mg_of X G a23)
    cases e
    rfl
  subst e2
  have F0 := fun_mk (st := s_number) l0 c0 k0
  have F1 := fun_mk (st := s_plus) l1 c1 k1
  have F2 := fun_mk (st := s_minus) l2 c2 k2
  have F3 := fun_mk (st := s_times) l3 c3 k3
  have F4 := fun_mk (st := s_dotted) l4 c4 k4
  have F5 := fun_mk (st := s_growth) l5 c5 k5
  have F6 := fun_mk (st := s_is_of_numbers) l6 c6 k6
  have F7 := fun_mk (st := s_use) l7 c7 k7
  have F8 := fun_mk (st := s_used) l8 c8 k8
  have F9 := fun_mk (st := s_u_law_cell) l9 c9 k9
  have F10 := fun_mk (st := s_u_law_parts) l10 c10 k10
  have F11 := fun_mk (st := s_u_law_is_integer) l11 c11 k11
  have F12 := fun_mk (st := s_u_law_divisor) l12 c12 k12
  have F13 := fun_mk (st := s_u_law_number) l13 c13 k13
  have F14 := fun_mk (st := s_u_law_plus) l14 c14 k14
  have F15 := fun_mk (st := s_u_law_times) l15 c15 k15
  have F16 := fun_mk (st := s_u_law_is_number) l16 c16 k16
  have F17 := fun_mk (st := s_u_law_points) l17 c17 k17
  have F18 := fun_mk (st := s_u_law_limits) l18 c18 k18
  have F19 := fun_mk (st := s_u_law_members) l19 c19 k19
  have F20 := fun_mk (st := s_u_law_frame) l20 c20 k20
  have F21 := fun_mk (st := s_u_law_use) l21 c21 k21
  have F22 := fun_mk (st := s_u_law_numbered) l22 c22 k22
  have F23 := fun_mk (st := s_law) l23 c23 k23
  let T : Txt K mg := {
    f_number := f0, fd_number := _, F_number := F0, g_number := PySem.W.mg_of X G a0,
    b_number := F0.binds (ps := ["n", "d"]) fun _ _ _ _ _ _ us hl => match us, hl with | [_, _], _ => rfl,
    f_plus := f1, fd_plus := _, F_plus := F1, g_plus := PySem.W.mg_of X G a1,
    b_plus := F1.binds (ps := ["a", "b"]) fun _ _ _ _ _ _ us hl => match us, hl with | [_, _], _ => rfl,
    f_minus := f2, fd_minus := _, F_minus := F2, g_minus := PySem.W.mg_of X G a2,
    b_minus := F2.binds (ps := ["a", "b"]) fun _ _ _ _ _ _ us hl => match us, hl with | [_, _], _ => rfl,
    f_times := f3, fd_times := _, F_times := F3, g_times := PySem.W.mg_of X G a3,
    b_times := F3.binds (ps := ["a", "b"]) fun _ _ _ _ _ _ us hl => match us, hl with | [_, _], _ => rfl,
    f_dotted := f4, fd_dotted := _, F_dotted := F4, g_dotted := PySem.W.mg_of X G a4,
    b_dotted := F4.binds (ps := ["vector", "pair"]) fun _ _ _ _ _ _ us hl => match us, hl with | [_, _], _ => rfl,
    f_growth := f5, fd_growth := _, F_growth := F5, g_growth := PySem.W.mg_of X G a5,
    b_growth := F5.binds (ps := ["frame", "k", "motion"]) fun _ _ _ _ _ _ us hl => match us, hl with | [_, _, _], _ => rfl,
    f_is_of_numbers := f6, fd_is_of_numbers := _, F_is_of_numbers := F6, g_is_of_numbers := PySem.W.mg_of X G a6,
    b_is_of_numbers := F6.binds (ps := ["motion"]) fun _ _ _ _ _ _ us hl => match us, hl with | [_], _ => rfl,
    f_use := f7, fd_use := _, F_use := F7, g_use := PySem.W.mg_of X G a7,
    b_use := F7.binds (ps := ["frame", "k", "motion"]) fun _ _ _ _ _ _ us hl => match us, hl with | [_, _, _], _ => rfl,
    f_used := f8, fd_used := _, F_used := F8, g_used := PySem.W.mg_of X G a8,
    b_used := F8.binds (ps := ["grown", "pull", "push"]) fun _ _ _ _ _ _ us hl => match us, hl with | [_, _, _], _ => rfl,
    f_u_law_cell := f9, fd_u_law_cell := _, F_u_law_cell := F9, g_u_law_cell := PySem.W.mg_of X G a9,
    b_u_law_cell := F9.binds (ps := ["script", "k"]) fun _ _ _ _ _ _ us hl => match us, hl with | [_, _], _ => rfl,
    f_u_law_parts := f10, fd_u_law_parts := _, F_u_law_parts := F10, g_u_law_parts := PySem.W.mg_of X G a10,
    b_u_law_parts := F10.binds (ps := ["cell", "sizes"]) fun _ _ _ _ _ _ us hl => match us, hl with | [_, _], _ => rfl,
    f_u_law_is_integer := f11, fd_u_law_is_integer := _, F_u_law_is_integer := F11, g_u_law_is_integer := PySem.W.mg_of X G a11,
    b_u_law_is_integer := F11.binds (ps := ["actual"]) fun _ _ _ _ _ _ us hl => match us, hl with | [_], _ => rfl,
    f_u_law_divisor := f12, fd_u_law_divisor := _, F_u_law_divisor := F12, g_u_law_divisor := PySem.W.mg_of X G a12,
    b_u_law_divisor := F12.binds (ps := ["a", "b"]) fun _ _ _ _ _ _ us hl => match us, hl with | [_, _], _ => rfl,
    f_u_law_number := f13, fd_u_law_number := _, F_u_law_number := F13, g_u_law_number := PySem.W.mg_of X G a13,
    b_u_law_number := F13.binds (ps := ["n", "d"]) fun _ _ _ _ _ _ us hl => match us, hl with | [_, _], _ => rfl,
    f_u_law_plus := f14, fd_u_law_plus := _, F_u_law_plus := F14, g_u_law_plus := PySem.W.mg_of X G a14,
    b_u_law_plus := F14.binds (ps := ["a", "b"]) fun _ _ _ _ _ _ us hl => match us, hl with | [_, _], _ => rfl,
    f_u_law_times := f15, fd_u_law_times := _, F_u_law_times := F15, g_u_law_times := PySem.W.mg_of X G a15,
    b_u_law_times := F15.binds (ps := ["a", "b"]) fun _ _ _ _ _ _ us hl => match us, hl with | [_, _], _ => rfl,
    f_u_law_is_number := f16, fd_u_law_is_number := _, F_u_law_is_number := F16, g_u_law_is_number := PySem.W.mg_of X G a16,
    b_u_law_is_number := F16.binds (ps := ["actual"]) fun _ _ _ _ _ _ us hl => match us, hl with | [_], _ => rfl,
    f_u_law_points := f17, fd_u_law_points := _, F_u_law_points := F17, g_u_law_points := PySem.W.mg_of X G a17,
    b_u_law_points := F17.binds (ps := ["script", "n", "size"]) fun _ _ _ _ _ _ us hl => match us, hl with | [_, _, _], _ => rfl,
    f_u_law_limits := f18, fd_u_law_limits := _, F_u_law_limits := F18, g_u_law_limits := PySem.W.mg_of X G a18,
    b_u_law_limits := F18.binds (ps := ["digit", "style"]) fun _ _ _ _ _ _ us hl => match us, hl with | [_, _], _ => rfl,
    f_u_law_members := f19, fd_u_law_members := _, F_u_law_members := F19, g_u_law_members := PySem.W.mg_of X G a19,
    b_u_law_members := F19.binds (ps := ["script", "points", "style"]) fun _ _ _ _ _ _ us hl => match us, hl with | [_, _, _], _ => rfl,
    f_u_law_frame := f20, fd_u_law_frame := _, F_u_law_frame := F20, g_u_law_frame := PySem.W.mg_of X G a20,
    b_u_law_frame := F20.binds (ps := ["script", "least", "style", "pinned"]) fun _ _ _ _ _ _ us hl => match us, hl with | [_, _, _, _], _ => rfl,
    f_u_law_use := f21, fd_u_law_use := _, F_u_law_use := F21, g_u_law_use := PySem.W.mg_of X G a21,
    b_u_law_use := F21.binds (ps := ["frame", "k", "motion"]) fun _ _ _ _ _ _ us hl => match us, hl with | [_, _, _], _ => rfl,
    f_u_law_numbered := f22, fd_u_law_numbered := _, F_u_law_numbered := F22, g_u_law_numbered := PySem.W.mg_of X G a22,
    b_u_law_numbered := F22.binds (ps := ["motion"]) fun _ _ _ _ _ _ us hl => match us, hl with | [_], _ => rfl,
    f_law := f23, fd_law := _, F_law := F23, g_law := PySem.W.mg_of X G a23,
    z_abs := PySem.W.mg_none_of X G z_abs,
    z_bool := PySem.W.mg_none_of X G z_bool,
    z_int := PySem.W.mg_none_of X G z_int,
    z_isinstance := PySem.W.mg_none_of X G z_isinstance,
    z_len := PySem.W.mg_none_of X G z_len,
    z_range := PySem.W.mg_none_of X G z_range,
    z_set := PySem.W.mg_none_of X G z_set,
    z_sorted := PySem.W.mg_none_of X G z_sorted,
    z_tuple := PySem.W.mg_none_of X G z_tuple,
    i_gcd := PySem.W.mg_of X G i_gcd,
  }
  exact ⟨PySem.W.fnOf "law" "law" (defArgs s_law) (defBody s_law) (defScope s_law) .none kV23 dc23 pm23 an23 cd23 ct23, fun s v => .of_eq rfl, fun base _ _ => ok_law T⟩
end DX
open PySem PySem.W PyProof.Rows
set_option maxHeartbeats 0 in
theorem PySem.Challenge.cw_loadorloose_k18_uses_holds : PySem.Challenge.rw_loadorloose_k18_uses.Holds := by
  w_on; o_law; k_head; (case hw => w_witness2)
  k_fill
  refine L2.walk_of (l := PySem.Challenge.rw_loadorloose_k18_uses) (n := 63) (k := 6) (x := "script") (CX := fun _ => L2.CX0) (sp := fun w => DX.spD _ DX.R_law) rfl (by decide) rfl ⟨rfl, by decide, by decide⟩ (fun w h Y => PySem.W.kIn_of Y) ?F (fun _ _ a ns hl _ hS => DX.law_end hl hS) (fun _ _ _ _ _ h => h)
  case F =>
    intro w mg fa h KX G hmg
    refine' DX.all_mk KX G hmg ?a0 ?l0 ?c0 ?k0 ?a1 ?l1 ?c1 ?k1 ?a2 ?l2 ?c2 ?k2 ?a3 ?l3 ?c3 ?k3 ?a4 ?l4 ?c4 ?k4 ?a5 ?l5 ?c5 ?k5 ?a6 ?l6 ?c6 ?k6 ?a7 ?l7 ?c7 ?k7 ?a8 ?l8 ?c8 ?k8 ?a9 ?l9 ?c9 ?k9 ?a10 ?l10 ?c10 ?k10 ?a11 ?l11 ?c11 ?k11 ?a12 ?l12 ?c12 ?k12 ?a13 ?l13 ?c13 ?k13 ?a14 ?l14 ?c14 ?k14 ?a15 ?l15 ?c15 ?k15 ?a16 ?l16 ?c16 ?k16 ?a17 ?l17 ?c17 ?k17 ?a18 ?l18 ?c18 ?k18 ?a19 ?l19 ?c19 ?k19 ?a20 ?l20 ?c20 ?k20 ?a21 ?l21 ?c21 ?k21 ?a22 ?l22 ?c22 ?k22 ?a23 ?l23 ?c23 ?k23 ?z_abs ?z_bool ?z_int ?z_isinstance ?z_len ?z_range ?z_set ?z_sorted ?z_tuple ?i_gcd
    (case a0 => k_is); (case l0 => k_is); (case c0 => k_is); (case k0 => k_is); (case a1 => k_is); (case l1 => k_is); (case c1 => k_is); (case k1 => k_is); (case a2 => k_is); (case l2 => k_is); (case c2 => k_is); (case k2 => k_is); (case a3 => k_is); (case l3 => k_is); (case c3 => k_is); (case k3 => k_is); (case a4 => k_is); (case l4 => k_is); (case c4 => k_is); (case k4 => k_is); (case a5 => k_is); (case l5 => k_is); (case c5 => k_is); (case k5 => k_is); (case a6 => k_is); (case l6 => k_is); (case c6 => k_is); (case k6 => k_is); (case a7 => k_is); (case l7 => k_is); (case c7 => k_is); (case k7 => k_is); (case a8 => k_is); (case l8 => k_is); (case c8 => k_is); (case k8 => k_is); (case a9 => k_is); (case l9 => k_is); (case c9 => k_is); (case k9 => k_is); (case a10 => k_is); (case l10 => k_is); (case c10 => k_is); (case k10 => k_is); (case a11 => k_is); (case l11 => k_is); (case c11 => k_is); (case k11 => k_is); (case a12 => k_is); (case l12 => k_is); (case c12 => k_is); (case k12 => k_is); (case a13 => k_is); (case l13 => k_is); (case c13 => k_is); (case k13 => k_is); (case a14 => k_is); (case l14 => k_is); (case c14 => k_is); (case k14 => k_is); (case a15 => k_is); (case l15 => k_is); (case c15 => k_is); (case k15 => k_is); (case a16 => k_is); (case l16 => k_is); (case c16 => k_is); (case k16 => k_is); (case a17 => k_is); (case l17 => k_is); (case c17 => k_is); (case k17 => k_is); (case a18 => k_is); (case l18 => k_is); (case c18 => k_is); (case k18 => k_is); (case a19 => k_is); (case l19 => k_is); (case c19 => k_is); (case k19 => k_is); (case a20 => k_is); (case l20 => k_is); (case c20 => k_is); (case k20 => k_is); (case a21 => k_is); (case l21 => k_is); (case c21 => k_is); (case k21 => k_is); (case a22 => k_is); (case l22 => k_is); (case c22 => k_is); (case k22 => k_is); (case a23 => k_is); (case l23 => k_is); (case c23 => k_is); (case k23 => k_is); (case z_abs => k_is); (case z_bool => k_is); (case z_int => k_is); (case z_isinstance => k_is); (case z_len => k_is); (case z_range => k_is); (case z_set => k_is); (case z_sorted => k_is); (case z_tuple => k_is); (case i_gcd => k_is)

