import PyProof.Rows.All
import Wide.All
import OpenK.AllK
import Wide.FinOn
import HandS.ForMost
import HandS.Wide
import HandS.Gcd
import HandS.IsInst
import HandS.TupAny
import HandS.Conv
import HandS.Style
import HandS.Lambda
import HandS.SetFor
import HandS.Strs
import HandS.Zip
import KE.GoesMore
import HandS.SortInts
import HandS.SortKw
import HandS.EndTab
import KE.DataMinKey
import KE.KNestM
import KE.DataFind
import HandS.Deep
import HandS.TryOnly
import HandS.Star
import HandS.WideBits
import HandS.TupSets
import HandS.Keys
import KE.SortKeyHeap
import KE.SortUse
import HandS.More
import HandS.HeadHook3
import HandS.Flow
import HandS.Set
import PySem.Challenge.RW_loadorloose_k33_buildings_are_judged
set_option Elab.async false
set_option linter.all false
set_option maxRecDepth 100000
set_option maxHeartbeats 4000000
namespace L2
open PySem
abbrev D := PyData
/-! ### what is left as it was, but for tables of code objects -/
def NT (o : HO) : Prop := ∀ ps, o ≠ .tbl ps
def Sam (H H' : Hp) : Prop := ∀ a o, H a = some o → ∃ o', H' a = some o' ∧ (NT o → o' = o)
section
variable {H H1 H2 : Hp}
theorem Sam.refl (H : Hp) : Sam H H := fun a o e => ⟨o, e, fun _ => rfl⟩
theorem Sam.at (h : Sam H H1) {a : Addr} {o : HO} (e : H a = some o) (n : NT o := by exact fun _ z => nomatch z) : H1 a = some o := by
  obtain ⟨o', e', q⟩ := h a o e
  rw [e', q n]
theorem Sam.trans (h : Sam H H1) (h' : Sam H1 H2) : Sam H H2 := fun a o e => by
  obtain ⟨o1, e1, q1⟩ := h a o e
  obtain ⟨o2, e2, q2⟩ := h' a o1 e1
  refine ⟨o2, e2, fun n => ?_⟩
  have z := q1 n
  subst z
  exact q2 n
theorem Sam.free (h : Sam H H1) {a : Addr} (e : H1 a = none) : H a = none := by
  cases q : H a with
  | none => rfl
  | some o =>
    obtain ⟨o', e', _⟩ := h a o q
    rw [e] at e'; cases e'
theorem Sam.of (h : Same H H1) : Sam H H1 := fun a o e => ⟨o, h a o e, fun _ => rfl⟩
theorem Sam.seq {K : PySem.W.Frag} (h : Sam H H1) {a : Addr} {xs : List V} (s : SqL K H a xs) : SqL K H1 a xs := by
  rcases s with (e | ⟨o, e⟩) | s
  · exact .inl (.inl (h.at e))
  · exact .inl (.inr ⟨o, h.at e⟩)
  · exact .inr s
end
/-- which names the code objects in a table have -/
class TabEnv where
  T : List (Addr × Str)
  un : ∀ p ∈ T, ∀ p' ∈ T, p.1 = p'.1 → p.2 = p'.2
def TabsG [E : TabEnv] (H : Hp) : Prop := ∀ p ∈ E.T, LamX.TabS H p.1 p.2
structure Bh [TabEnv] (B H : Hp) : Prop where
  sm : Sam B H
  tb : TabsG H
instance bhSam [TabEnv] {B H : Hp} : Coe (Bh B H) (Sam B H) := ⟨Bh.sm⟩
section
variable [TabEnv] {B H : Hp}
theorem Bh.free (h : Bh B H) {a : Addr} (e : H a = none) : B a = none := h.sm.free e
theorem Bh.at (h : Bh B H) {a : Addr} {o : HO} (e : B a = some o) (n : NT o := by exact fun _ z => nomatch z) : H a = some o := h.sm.at e n
theorem Bh.seq {K : PySem.W.Frag} (h : Bh B H) {a : Addr} {xs : List V} (s : SqL K B a xs) : SqL K H a xs := h.sm.seq s
/-- tables under a change of what is neither a table nor a code object -/
theorem TabsG.upd {p : Addr} {u : HO} (t : TabsG H) (h : H p = none ∨ ∃ o, H p = some o ∧ NT o ∧ ∀ φ, o ≠ .ext φ) (hu : NT u) : TabsG (upd H p u) := fun q mq => by
  obtain ⟨ps, e, a, b⟩ := t q mq
  have hP : q.1 ≠ p := fun z => by
    rw [z] at e
    rcases h with h | ⟨o, h, n, _⟩
    · rw [h] at e; cases e
    · rw [h] at e
      exact n ps (Option.some.inj e)
  refine ⟨ps, by rw [upd_ne hP]; exact e, a, fun pos cv hc => ?_⟩
  obtain ⟨c, e1, e2⟩ := b pos cv hc
  refine ⟨c, e1, ?_⟩
  have hc : c ≠ p := fun z => by
    rw [z] at e2
    rcases h with h | ⟨o, h, _, hx⟩
    · rw [h] at e2; cases e2
    · rw [h] at e2
      exact hx _ (Option.some.inj e2)
  rw [upd_ne hc]; exact e2
end
theorem sqT_up {K : PySem.W.Frag} {H H' : Hp} {a : Addr} {xs : List V} (e : Sam H H') (h : SqT K H a xs) : SqT K H' a xs := by
  rcases h with (h | ⟨o, h⟩) | h
  · exact .inl (.inl (e.at h))
  · exact .inl (.inr ⟨o, e.at h⟩)
  · exact .inr h
theorem rd_up {H H' : Hp} {a : Addr} {u : HO} (e : Sam H H') (h : Rd H a u) (n : NT u := by exact fun _ z => nomatch z) : Rd H' a u := by
  rcases h with h | ⟨o, h⟩
  · exact .inl (e.at h n)
  · exact .inr ⟨o, e.at h⟩
mutual
inductive Dq (K : PySem.W.Frag) (H : Hp) : V → D → Prop
  | non : Dq K H .non .none
  | bl (b : Bool) : Dq K H (.bl b) (.bool b)
  | int (i : Int) : Dq K H (.int i) (.int i)
  | str (x : Str) : Dq K H (.str x) (.str x)
  | lst {a : Addr} {xs : List V} {ds : List D} : SqL K H a xs → DqAll K H xs ds → Dq K H (.ref a) (.list ds)
  | tup {a : Addr} {xs : List V} {ds : List D} : SqT K H a xs → DqAll K H xs ds → Dq K H (.ref a) (.tuple ds)
  | dct {a : Addr} {xs : List (Key × V)} {ds : List (D × D)} : Rd H a (.dK xs) → DqKv K H xs ds → Dq K H (.ref a) (.dict ds)
inductive DqAll (K : PySem.W.Frag) (H : Hp) : List V → List D → Prop
  | nil : DqAll K H [] []
  | cons {v : V} {vs : List V} {d : D} {ds : List D} : Dq K H v d → DqAll K H vs ds → DqAll K H (v :: vs) (d :: ds)
inductive DqKv (K : PySem.W.Frag) (H : Hp) : List (Key × V) → List (D × D) → Prop
  | nil : DqKv K H [] []
  | cons {k : Key} {v : V} {vs : List (Key × V)} {e d : D} {ds : List (D × D)} : Dq K H (kV k) e → Dq K H v d → DqKv K H vs ds → DqKv K H ((k, v) :: vs) ((e, d) :: ds)
end
section
variable {K : PySem.W.Frag} {H H' : Hp}
mutual
theorem Dq.up (e : Sam H H') : ∀ (d : D) (v : V), Dq K H v d → Dq K H' v d
  | .none, _, h => by cases h; exact .non
  | .bool b, _, h => by cases h; exact .bl b
  | .int i, _, h => by cases h; exact .int i
  | .str x, _, h => by cases h; exact .str x
  | .list ds, _, h => by
    cases h with
    | lst hs ha => exact .lst (e.seq hs) (DqAll.up e ds _ ha)
  | .tuple ds, _, h => by
    cases h with
    | tup hs ha => exact .tup (sqT_up e hs) (DqAll.up e ds _ ha)
  | .dict ds, _, h => by
    cases h with
    | dct hs ha => exact .dct (rd_up e hs) (DqKv.up e ds _ ha)
theorem DqAll.up (e : Sam H H') : ∀ (ds : List D) (vs : List V), DqAll K H vs ds → DqAll K H' vs ds
  | [], _, h => by cases h; exact .nil
  | d :: ds, _, h => by
    cases h with
    | cons h1 h2 => exact .cons (Dq.up e d _ h1) (DqAll.up e ds _ h2)
theorem DqKv.up (e : Sam H H') : ∀ (ds : List (D × D)) (vs : List (Key × V)), DqKv K H vs ds → DqKv K H' vs ds
  | [], _, h => by cases h; exact .nil
  | (f, d) :: ds, _, h => by
    cases h with
    | cons h1 h2 h3 => exact .cons (Dq.up e f _ h1) (Dq.up e d _ h2) (DqKv.up e ds _ h3)
end
mutual
theorem Dq.dp : ∀ (d : D) (v : V), Dq K H v d → d.canLay0 = true → Dp K H v d
  | .none, _, h, _ => by cases h; exact .non
  | .bool b, _, h, _ => by cases h; exact .bl b
  | .int i, _, h, _ => by cases h; exact .int i
  | .str x, _, h, _ => by cases h; exact .str x
  | .list ds, _, h, c => by
    simp only [PyData.canLay0] at c
    cases h with
    | lst hs ha => exact .lst hs (DqAll.dp ds _ ha c)
  | .tuple ds, _, h, c => by
    simp only [PyData.canLay0] at c
    cases h with
    | tup hs ha => exact .tup hs (DqAll.dp ds _ ha c)
  | .dict ds, _, h, c => by simp only [PyData.canLay0] at c; cases c
theorem DqAll.dp : ∀ (ds : List D) (vs : List V), DqAll K H vs ds → PyData.canLayAll0 ds = true → DpAll K H vs ds
  | [], _, h, _ => by cases h; exact .nil
  | d :: ds, _, h, c => by
    simp only [PyData.canLayAll0, Bool.and_eq_true] at c
    cases h with
    | cons h1 h2 => exact .cons (Dq.dp d _ h1 c.1) (DqAll.dp ds _ h2 c.2)
end
theorem DqKv.len : ∀ {vs : List (Key × V)} {ds : List (D × D)}, DqKv K H vs ds → vs.length = ds.length
  | _, [], h => by cases h; rfl
  | _, d :: ds, h => by
    cases h with
    | cons h1 h2 h3 => simp only [List.length_cons]; rw [DqKv.len h3]
theorem DqAll.len : ∀ {vs : List V} {ds : List D}, DqAll K H vs ds → vs.length = ds.length
  | _, [], h => by cases h; rfl
  | _, d :: ds, h => by
    cases h with
    | cons h1 h2 => simp only [List.length_cons]; rw [DqAll.len h2]
theorem DqAll.get : ∀ {vs : List V} {ds : List D} {i : Nat} {d : D}, DqAll K H vs ds → ds[i]? = some d → ∃ v, vs[i]? = some v ∧ Dq K H v d
  | _, [], _, _, _, e => by simp at e
  | _, x :: ds, 0, d, h, e => by
    cases h with
    | cons h1 h2 => simp at e; subst e; exact ⟨_, rfl, h1⟩
  | _, x :: ds, i + 1, d, h, e => by
    cases h with
    | cons h1 h2 =>
      obtain ⟨v, a, b⟩ := DqAll.get (i := i) h2 (by simpa using e)
      exact ⟨v, by simpa using a, b⟩
theorem DqAll.getV : ∀ {vs : List V} {ds : List D} {i : Nat} {v : V}, DqAll K H vs ds → vs[i]? = some v → ∃ d, ds[i]? = some d ∧ Dq K H v d
  | [], _, _, _, _, e => by simp at e
  | x :: vs, _, 0, d, h, e => by
    cases h with
    | cons h1 h2 => simp at e; subst e; exact ⟨_, rfl, h1⟩
  | x :: vs, _, i + 1, d, h, e => by
    cases h with
    | cons h1 h2 =>
      obtain ⟨v, a, b⟩ := DqAll.getV (i := i) h2 (by simpa using e)
      exact ⟨v, by simpa using a, b⟩
theorem DqAll.app : ∀ {vs ws : List V} {ds es : List D}, DqAll K H vs ds → DqAll K H ws es → DqAll K H (vs ++ ws) (ds ++ es)
  | _, _, [], _, h, h' => by cases h; exact h'
  | _, _, d :: ds, _, h, h' => by
    cases h with
    | cons h1 h2 => exact .cons h1 (DqAll.app h2 h')
theorem DqAll.take : ∀ (n : Nat) {vs : List V} {ds : List D}, DqAll K H vs ds → DqAll K H (vs.take n) (ds.take n)
  | 0, _, _, _ => .nil
  | n + 1, _, [], h => by cases h; exact .nil
  | n + 1, _, d :: ds, h => by
    cases h with
    | cons h1 h2 => exact .cons h1 (DqAll.take n h2)
theorem DqAll.drop : ∀ (n : Nat) {vs : List V} {ds : List D}, DqAll K H vs ds → DqAll K H (vs.drop n) (ds.drop n)
  | 0, _, _, h => h
  | n + 1, _, [], h => by cases h; exact .nil
  | n + 1, _, d :: ds, h => by
    cases h with
    | cons h1 h2 => exact DqAll.drop n h2
theorem DqAll.set {v : V} {d : D} (q : Dq K H v d) : ∀ (n : Nat) {vs : List V} {ds : List D}, DqAll K H vs ds → DqAll K H (vs.set n v) (ds.set n d)
  | _, _, [], h => by cases h; exact .nil
  | 0, _, e :: ds, h => by
    cases h with
    | cons h1 h2 => exact .cons q h2
  | n + 1, _, e :: ds, h => by
    cases h with
    | cons h1 h2 => exact .cons h1 (DqAll.set q n h2)
/-- ints -/
theorem DqAll.ints : ∀ {ns : List Int} {vs : List V}, DqAll K H vs (ns.map PyData.int) → vs = ns.map V.int
  | [], _, h => by cases h; rfl
  | n :: ns, _, h => by
    cases h with
    | cons h1 h2 => cases h1; rw [DqAll.ints h2]; rfl
theorem DqAll.ofInts : ∀ {ns : List Int}, DqAll K H (ns.map V.int) (ns.map PyData.int)
  | [] => .nil
  | n :: ns => .cons (.int n) DqAll.ofInts
theorem DqAll.bools : ∀ {ns : List Bool} {vs : List V}, DqAll K H vs (ns.map PyData.bool) → vs = ns.map V.bl
  | [], _, h => by cases h; rfl
  | n :: ns, _, h => by
    cases h with
    | cons h1 h2 => cases h1; rw [DqAll.bools h2]; rfl
end

section
variable {K : PySem.W.Frag}
theorem Dq.int_inv {H : Hp} {v : V} {i : Int} (h : Dq K H v (.int i)) : v = .int i := by cases h; rfl
theorem Dq.bool_inv {H : Hp} {v : V} {b : Bool} (h : Dq K H v (.bool b)) : v = .bl b := by cases h; rfl
end
end L2
namespace DX
open PySem L2
variable [TabEnv]

/-! ### the local names -/
inductive OD where
  | l (ds : List D)
  | m (es : List (D × D))
inductive SV where
  | no
  | val (d : D)
  | own (x : OD)
  | ob (C : Addr) (fs : List (Str × D))
  | big (R : Hp → Hp → V → Prop) (F : List Addr)
def OwnRep (K : PySem.W.Frag) (B : Hp) (o : HO) : OD → Prop
  | .l ds => ∃ vs, o = .lst vs ∧ DqAll K B vs ds
  | .m es => ∃ kvs, o = .dK kvs ∧ DqKv K B kvs es
theorem OwnRep.up {K : PySem.W.Frag} {B B' : Hp} {o : HO} (e : Sam B B') : ∀ {x : OD}, OwnRep K B o x → OwnRep K B' o x
  | .l ds, ⟨vs, a, b⟩ => ⟨vs, a, DqAll.up e ds _ b⟩
  | .m es, ⟨vs, a, b⟩ => ⟨vs, a, DqKv.up e es _ b⟩

structure Hist (B0 H0 B H : Hp) : Prop where
  bb : Sam B0 B
  bh : Bh B H
  hh : Sam H0 H
  fr : ∀ a, H0 a ≠ none → B0 a = none → B a = none

/-- the fields of an object that is only read -/
def FldOk (K : PySem.W.Frag) (B : Hp) (ws : List (Str × V)) (fs : List (Str × D)) : Prop := ∀ f d, (f, d) ∈ fs → ∃ v, ws.lookup f = some v ∧ Dq K B v d
theorem FldOk.up {K : PySem.W.Frag} {B B' : Hp} {ws : List (Str × V)} {fs : List (Str × D)} (e : Sam B B') (h : FldOk K B ws fs) : FldOk K B' ws fs := fun f d m => by
  obtain ⟨v, a, b⟩ := h f d m
  exact ⟨v, a, Dq.up e _ _ b⟩
/-- what stands at F and is known beside it -/
def Stab (K : PySem.W.Frag) (R : Hp → Hp → V → Prop) (F : List Addr) : Prop := ∀ (B H B' H' : Hp) (v : V), R B H v → (∀ w d, Dq K B w d → Dq K B' w d) → (∀ a ∈ F, ∀ o, H a = some o → NT o → H' a = some o) → R B' H' v
def refs : Option V → List Addr
  | some (.ref p) => [p]
  | _ => []
/-- what is a slot's own -/
def foot : SV → Option V → List Addr
  | .own _, o => refs o
  | .ob _ _, o => refs o
  | .big _ F, _ => F
  | .val _, _ => []
  | .no, _ => []
def Apart (σ : L2.St) (δ : List SV) : Prop := ∀ (i j : Nat) (s t : SV) (o q : Option V), i ≠ j → δ[i]? = some s → δ[j]? = some t → σ[i]? = some o → σ[j]? = some q → ∀ a ∈ foot s o, a ∉ foot t q
def SlotOk (K : PySem.W.Frag) (B H H0 : Hp) (o : Option V) : SV → Prop
  | .no => True
  | .big R F => ∃ v, o = some v ∧ R B H v ∧ Stab K R F ∧ ∀ a ∈ F, H a ≠ none ∧ B a = none ∧ H0 a = none
  | .ob C fs => ∃ p dx ws, o = some (.ref p) ∧ H p = some (.ins C dx ws) ∧ (∀ x, (ws.lookup x).isSome → x ∈ fs.map (·.1)) ∧ FldOk K B ws fs
  | .val d => ∃ v, o = some v ∧ Dq K B v d
  | .own x => ∃ p u, o = some (.ref p) ∧ H p = some u ∧ B p = none ∧ H0 p = none ∧ OwnRep K B u x

structure Sd (K : PySem.W.Frag) (B0 H0 B H : Hp) (σ : L2.St) (δ : List SV) : Prop where
  hist : Hist B0 H0 B H
  len : σ.length = δ.length
  ok : ∀ (i : Nat) (s : SV), δ[i]? = some s → ∃ o, σ[i]? = some o ∧ SlotOk K B H H0 o s
  apart : Apart σ δ
theorem Sd.apartOwn {K : PySem.W.Frag} {B0 H0 B H : Hp} {σ : L2.St} {δ : List SV} (S : Sd K B0 H0 B H σ δ) (i j : Nat) (p : Addr) (ds es : OD) (n : i ≠ j) (e1 : δ[i]? = some (.own ds)) (e2 : δ[j]? = some (.own es)) (e3 : σ[i]? = some (some (.ref p))) : σ[j]? ≠ some (some (.ref p)) := fun e4 =>
  S.apart i j _ _ _ _ n e1 e2 e3 e4 p (List.mem_singleton.mpr rfl) (List.mem_singleton.mpr rfl)

section
variable {K : PySem.W.Frag} {B0 H0 B H B' H' : Hp} {σ : L2.St} {δ : List SV}

/-- a step that leaves what is there -/
structure Stp (B H B' H' : Hp) : Prop where
  bb : Sam B B'
  bh : Bh B' H'
  hh : Sam H H'
  fr : ∀ a, H a ≠ none → B a = none → B' a = none
theorem Stp.refl (h : Bh B H) : Stp B H B H := ⟨Sam.refl _, h, Sam.refl _, fun _ _ z => z⟩
theorem ne_none_of {a : Addr} (e : Sam H H') (h : H a ≠ none) : H' a ≠ none := fun z => h (e.free z)
theorem rep_nt {B : Hp} {u : HO} : ∀ {x : OD}, OwnRep K B u x → NT u
  | .l ds, ⟨vs, a, _⟩ => by subst a; exact fun _ z => nomatch z
  | .m es, ⟨vs, a, _⟩ => by subst a; exact fun _ z => nomatch z
theorem rep_ext {B : Hp} {u : HO} : ∀ {x : OD}, OwnRep K B u x → ∀ φ, u ≠ .ext φ
  | .l ds, ⟨vs, a, _⟩ => by subst a; exact fun _ z => nomatch z
  | .m es, ⟨vs, a, _⟩ => by subst a; exact fun _ z => nomatch z
theorem Stp.trans {B1 H1 B2 H2 : Hp} (a : Stp B H B1 H1) (b : Stp B1 H1 B2 H2) : Stp B H B2 H2 :=
  ⟨a.bb.trans b.bb, b.bh, a.hh.trans b.hh, fun x h z => b.fr x (ne_none_of a.hh h) (a.fr x h z)⟩
theorem Stp.hist (s : Stp B H B' H') (h : Hist B0 H0 B H) : Hist B0 H0 B' H' :=
  ⟨h.bb.trans s.bb, s.bh, h.hh.trans s.hh, fun x q z => s.fr x (ne_none_of h.hh q) (h.fr x q z)⟩
theorem SlotOk.step {o : Option V} {x : SV} (s : Stp B H B' H') (h : SlotOk K B H H0 o x) : SlotOk K B' H' H0 o x := by
  cases x with
  | no => exact True.intro
  | ob C fs =>
    obtain ⟨p, dx, ws, e, hp, hn, hf⟩ := h
    exact ⟨p, dx, ws, e, s.hh.at hp, hn, hf.up s.bb⟩
  | big R F =>
    obtain ⟨v, e, r, st, ha⟩ := h
    refine ⟨v, e, st B H B' H' v r (fun w d => Dq.up s.bb d w) (fun a ma o eo no => s.hh.at eo no), st, fun a ma => ?_⟩
    · obtain ⟨h1, h2, h3⟩ := ha a ma
      exact ⟨ne_none_of s.hh h1, s.fr a h1 h2, h3⟩
  | val d => obtain ⟨v, e, q⟩ := h; exact ⟨v, e, Dq.up s.bb _ _ q⟩
  | own ds =>
    obtain ⟨p, vs, e, hp, bp, h0, q⟩ := h
    exact ⟨p, vs, e, s.hh.at hp (rep_nt q), s.fr p (by rw [hp]; exact fun z => nomatch z) bp, h0, q.up s.bb⟩
theorem Sd.step (S : Sd K B0 H0 B H σ δ) (s : Stp B H B' H') : Sd K B0 H0 B' H' σ δ :=
  ⟨s.hist S.hist, S.len, fun i x e => by
    obtain ⟨o, a, q⟩ := S.ok i x e
    exact ⟨o, a, q.step s⟩, S.apart⟩
theorem same_new {p : Addr} {o : HO} (h : H p = none) : Sam H (upd H p o) := fun b x e => by
  rw [upd_ne (ne_of_none e h)]; exact ⟨x, e, fun _ => rfl⟩
/-- a new object, known to both -/
theorem Stp.new {p : Addr} {o : HO} (bh : Bh B H) (h : H p = none) (n : NT o := by exact fun _ z => nomatch z) : Stp B H (upd B p o) (upd H p o) := by
  have hb : B p = none := bh.free h
  refine ⟨same_new hb, ⟨fun a u e => ?_, bh.tb.upd (.inl h) n⟩, same_new h, fun a q z => ?_⟩
  · by_cases ha : a = p
    · subst ha; rw [upd_same] at e ⊢; exact ⟨_, e, fun _ => rfl⟩
    · rw [upd_ne ha] at e ⊢; exact bh.sm _ _ e
  · have ha : a ≠ p := fun e => by subst e; exact q h
    rw [upd_ne ha]; exact z
/-- a new object, owned -/
theorem Stp.newOwn {p : Addr} {o : HO} (bh : Bh B H) (h : H p = none) (n : NT o := by exact fun _ z => nomatch z) : Stp B H B (upd H p o) :=
  ⟨Sam.refl _, ⟨bh.sm.trans (same_new h), bh.tb.upd (.inl h) n⟩, same_new h, fun _ _ z => z⟩
/-- an owned one is made known -/
theorem Stp.know {p : Addr} {o : HO} (bh : Bh B H) (hb : B p = none) (hp : H p = some o) : Sam B (upd B p o) ∧ Bh (upd B p o) H := by
  refine ⟨same_new hb, fun a u e => ?_, bh.tb⟩
  by_cases ha : a = p
  · subst ha; rw [upd_same] at e; cases e; exact ⟨_, hp, fun _ => rfl⟩
  · rw [upd_ne ha] at e; exact bh.sm _ _ e
theorem Sd.slot (S : Sd K B0 H0 B H σ δ) {i : Nat} {d : D} (e : δ[i]? = some (.val d)) : ∃ v, σ[i]? = some (some v) ∧ Dq K B v d := by
  obtain ⟨o, a, v, rfl, q⟩ := S.ok i _ e
  exact ⟨v, a, q⟩
theorem Sd.slotObj (S : Sd K B0 H0 B H σ δ) {i : Nat} {x : OD} (e : δ[i]? = some (.own x)) : ∃ p u, σ[i]? = some (some (.ref p)) ∧ H p = some u ∧ B p = none ∧ H0 p = none ∧ OwnRep K B u x := by
  obtain ⟨o, a, p, vs, rfl, q⟩ := S.ok i _ e
  exact ⟨p, vs, a, q⟩
theorem Sd.slotOwn (S : Sd K B0 H0 B H σ δ) {i : Nat} {ds : List D} (e : δ[i]? = some (.own (.l ds))) : ∃ p vs, σ[i]? = some (some (.ref p)) ∧ H p = some (.lst vs) ∧ B p = none ∧ H0 p = none ∧ DqAll K B vs ds := by
  obtain ⟨p, u, a, hp, b, h0, vs, rfl, q⟩ := S.slotObj e
  exact ⟨p, vs, a, hp, b, h0, q⟩
theorem Sd.slotMap (S : Sd K B0 H0 B H σ δ) {i : Nat} {es : List (D × D)} (e : δ[i]? = some (.own (.m es))) : ∃ p vs, σ[i]? = some (some (.ref p)) ∧ H p = some (.dK vs) ∧ B p = none ∧ H0 p = none ∧ DqKv K B vs es := by
  obtain ⟨p, u, a, hp, b, h0, vs, rfl, q⟩ := S.slotObj e
  exact ⟨p, vs, a, hp, b, h0, q⟩
theorem get_set {α : Type} {xs : List α} {i j : Nat} {x y : α} (h : (xs.set i x)[j]? = some y) : (i = j ∧ x = y) ∨ (i ≠ j ∧ xs[j]? = some y) := by
  by_cases e : i = j
  · subst e
    have hl : i < xs.length := by
      have := (List.getElem?_eq_some_iff.mp h).1
      simpa using this
    rw [List.getElem?_set_self hl] at h
    exact .inl ⟨rfl, Option.some.inj h⟩
  · rw [List.getElem?_set_ne e] at h
    exact .inr ⟨e, h⟩
theorem set_some {α : Type} {xs : List α} {i j : Nat} {x : α} (h : j < xs.length) : ∃ y, (xs.set i x)[j]? = some y ∧ ((i = j ∧ y = x) ∨ (i ≠ j ∧ xs[j]? = some y)) := by
  have h' : j < (xs.set i x).length := by rw [List.length_set]; exact h
  refine ⟨_, List.getElem?_eq_getElem h', ?_⟩
  rcases get_set (List.getElem?_eq_getElem h') with ⟨a, b⟩ | ⟨a, b⟩
  · exact .inl ⟨a, b.symm⟩
  · exact .inr ⟨a, b⟩
/-- a slot is stored -/
theorem Sd.set (S : Sd K B0 H0 B H σ δ) {i : Nat} {o : Option V} {x : SV} (h : SlotOk K B H H0 o x)
    (ap : ∀ a ∈ foot x o, ∀ j t q, i ≠ j → δ[j]? = some t → σ[j]? = some q → a ∉ foot t q) : Sd K B0 H0 B H (σ.set i o) (δ.set i x) := by
  refine ⟨S.hist, by rw [List.length_set, List.length_set]; exact S.len, fun j s e => ?_, fun j k s t o' q' n e1 e2 e3 e4 a ma mb => ?_⟩
  · have hj : j < σ.length := by
      have := (List.getElem?_eq_some_iff.mp e).1
      rw [List.length_set] at this
      rw [S.len]; exact this
    obtain ⟨y, hy, c⟩ := set_some (xs := σ) (i := i) (x := o) hj
    rcases get_set e with ⟨a, b⟩ | ⟨a, b⟩
    · subst b
      rcases c with ⟨_, c⟩ | ⟨c, _⟩
      · subst c; exact ⟨_, hy, h⟩
      · exact absurd a c
    · rcases c with ⟨c, _⟩ | ⟨_, c⟩
      · exact absurd c a
      · obtain ⟨o', q, w⟩ := S.ok j s b
        rw [q] at c; cases c
        exact ⟨_, hy, w⟩
  · rcases get_set e1 with ⟨z, b⟩ | ⟨z, b⟩
    · rcases get_set e2 with ⟨z', b'⟩ | ⟨z', b'⟩
      · exact n (z.symm.trans z')
      · rcases get_set e3 with ⟨_, d⟩ | ⟨c, d⟩
        · rcases get_set e4 with ⟨c', d'⟩ | ⟨_, d'⟩
          · exact z' c'
          · subst b; subst d
            exact ap a ma k t q' z' b' d' mb
        · exact absurd z c
    · rcases get_set e2 with ⟨z', b'⟩ | ⟨z', b'⟩
      · rcases get_set e4 with ⟨_, d⟩ | ⟨c, d⟩
        · rcases get_set e3 with ⟨c', d'⟩ | ⟨_, d'⟩
          · exact z c'
          · subst b'; subst d
            exact ap a mb j s o' z b d' ma
        · exact absurd z' c
      · rcases get_set e3 with ⟨c, d⟩ | ⟨_, d⟩
        · exact absurd c z
        · rcases get_set e4 with ⟨c', d'⟩ | ⟨_, d'⟩
          · exact absurd c' z'
          · exact S.apart j k s t o' q' n b b' d d' a ma mb
theorem Sd.setVal (S : Sd K B0 H0 B H σ δ) {i : Nat} {v : V} {d : D} (h : Dq K B v d) : Sd K B0 H0 B H (σ.set i (some v)) (δ.set i (.val d)) :=
  S.set ⟨v, rfl, h⟩ fun _ z => by cases z
/-- a slot is forgotten -/
theorem Sd.forget (S : Sd K B0 H0 B H σ δ) {i : Nat} {o : Option V} : Sd K B0 H0 B H (σ.set i o) (δ.set i .no) :=
  S.set True.intro fun _ z => by cases z
/-- a slot that has no more of its own than it had -/
theorem Apart.less (h : Apart σ δ) {i : Nat} {x y : SV} (e : δ[i]? = some y) (hs : ∀ o, σ[i]? = some o → ∀ a ∈ foot x o, a ∈ foot y o) : Apart σ (δ.set i x) := fun j k s t o q n e1 e2 e3 e4 a ma mb => by
  rcases get_set e1 with ⟨rfl, rfl⟩ | ⟨z, b⟩
  · rcases get_set e2 with ⟨z', _⟩ | ⟨z', b'⟩
    · exact n z'
    · exact h i k y t o q n e b' e3 e4 a (hs o e3 a ma) mb
  · rcases get_set e2 with ⟨rfl, rfl⟩ | ⟨z', b'⟩
    · exact h j i s y o q n b e e3 e4 a ma (hs q e4 a mb)
    · exact h j k s t o q n b b' e3 e4 a ma mb
/-- another past -/
theorem Sd.past {B1 : Hp} (S : Sd K B0 H0 B H σ δ) (h0 : Sam B0 B1) (h : Sam B1 B) : Sd K B1 H0 B H σ δ :=
  ⟨⟨h, S.hist.bh, S.hist.hh, fun a q z => S.hist.fr a q (h0.free z)⟩, S.len, S.ok, S.apart⟩
theorem Hist.back {B1 H1 : Hp} (S : Hist B1 H0 B H) (h0 : Hist B0 H0 B1 H1) : Hist B0 H0 B H :=
  ⟨h0.bb.trans S.bb, S.bh, S.hh, fun a q z => S.fr a q (h0.fr a q z)⟩
theorem Sd.back {B1 H1 : Hp} (S : Sd K B1 H0 B H σ δ) (h0 : Hist B0 H0 B1 H1) : Sd K B0 H0 B H σ δ :=
  ⟨S.hist.back h0, S.len, S.ok, S.apart⟩
end

section
variable {K : PySem.W.Frag} {B0 H0 B H B' H' : Hp} {σ : L2.St} {δ : List SV}
theorem new_apart {p : Addr} {i : Nat} (S : Sd K B0 H0 B H σ δ) (np : H p = none) (j : Nat) (s : SV) (q : Option V) (n : i ≠ j) (e : δ[j]? = some s) (eq : σ[j]? = some q) : p ∉ foot s q := fun m => by
  obtain ⟨o, eo, ok⟩ := S.ok j s e
  rw [eq] at eo; cases eo
  cases s with
  | no => cases m
  | val d => cases m
  | own x =>
    obtain ⟨p', u, rfl, hp, _⟩ := ok
    rw [List.mem_singleton.mp m] at np
    rw [np] at hp; cases hp
  | ob C fs =>
    obtain ⟨p', dx, ws, rfl, hp, _⟩ := ok
    rw [List.mem_singleton.mp m] at np
    rw [np] at hp; cases hp
  | big R F =>
    obtain ⟨v, rfl, _, _, ha⟩ := ok
    exact (ha p m).1 np
theorem new_foot {S : Sd K B0 H0 B H σ δ} {a : Addr} (na : H a = none) : ∀ (j : Nat) (t : SV) (q : Option V), δ[j]? = some t → σ[j]? = some q → a ∉ foot t q := fun j t q e1 e2 => new_apart S na (i := j + 1) j t q (by omega) e1 e2
theorem big_step {p : Addr} {o : Option V} {R : Hp → Hp → V → Prop} {F : List Addr} (ok : SlotOk K B H H0 o (.big R F)) (hp : p ∉ F) (hb : Sam B B') (hb2 : ∀ a, a ≠ p → B' a = B a) (hh : ∀ a, a ≠ p → H' a = H a) : SlotOk K B' H' H0 o (.big R F) := by
  obtain ⟨v, e, r, st, ha⟩ := ok
  have hne : ∀ a ∈ F, a ≠ p := fun a ma z => hp (z ▸ ma)
  refine ⟨v, e, st _ _ _ _ v r (fun w d z => Dq.up hb d w z) (fun a ma o eo _ => by rw [hh a (hne a ma)]; exact eo), st, fun a ma => ?_⟩
  rw [hb2 a (hne a ma), hh a (hne a ma)]
  exact ha a ma
theorem nt_lst {vs : List V} : NT (.lst vs) ∧ ∀ φ, HO.lst vs ≠ .ext φ := ⟨(fun _ z => nomatch z), (fun _ z => nomatch z)⟩
/-- an address that no slot owns is written -/
theorem Sd.updFree {L : Addr} {u : HO} (S : Sd K B0 H0 B H σ δ) (hb : B L = none) (h0 : H0 L = none) (hf : ∀ (j : Nat) (t : SV) (q : Option V), δ[j]? = some t → σ[j]? = some q → L ∉ foot t q) (hL : H L = none ∨ ∃ o, H L = some o ∧ NT o ∧ ∀ φ, o ≠ .ext φ) (hu : NT u) : Sd K B0 H0 B (upd H L u) σ δ := by
  refine ⟨⟨S.hist.bb, ⟨fun a o ea => ?_, S.hist.bh.tb.upd hL hu⟩, fun a o ea => ?_, S.hist.fr⟩, S.len, fun j s ej => ?_, S.apart⟩
  · have : a ≠ L := fun z => by subst z; rw [hb] at ea; cases ea
    rw [upd_ne this]; exact S.hist.bh.sm _ _ ea
  · have : a ≠ L := fun z => by subst z; rw [h0] at ea; cases ea
    rw [upd_ne this]; exact S.hist.hh _ _ ea
  · obtain ⟨o, eo, ok⟩ := S.ok j s ej
    have aw := hf j s o ej eo
    refine ⟨o, eo, ?_⟩
    cases s with
    | no => exact True.intro
    | val d => exact ok
    | ob C fs =>
      obtain ⟨pp, dx, ws, rfl, hp, r⟩ := ok
      have : pp ≠ L := fun z => aw (List.mem_singleton.mpr z.symm)
      exact ⟨pp, dx, ws, rfl, by rw [upd_ne this]; exact hp, r⟩
    | own xo =>
      obtain ⟨pp, vs, rfl, hp, r⟩ := ok
      have : pp ≠ L := fun z => aw (List.mem_singleton.mpr z.symm)
      exact ⟨pp, vs, rfl, by rw [upd_ne this]; exact hp, r⟩
    | big R F => exact big_step ok aw (Sam.refl _) (fun _ _ => rfl) (fun a z => upd_ne z)
theorem Stp.updNew {L : Addr} {u : HO} (s : Stp B H B' H') (n : H L = none) (hb : B' L = none) (hL : ∃ o, H' L = some o ∧ NT o ∧ ∀ φ, o ≠ .ext φ) (hu : NT u) : Stp B H B' (upd H' L u) := by
  refine ⟨s.bb, ⟨fun a o ea => ?_, s.bh.tb.upd (.inr hL) hu⟩, fun a o ea => ?_, s.fr⟩
  · have : a ≠ L := fun z => by subst z; rw [hb] at ea; cases ea
    rw [upd_ne this]; exact s.bh.sm _ _ ea
  · have : a ≠ L := fun z => by subst z; rw [n] at ea; cases ea
    rw [upd_ne this]; exact s.hh _ _ ea
end

/-! ### what an expression gives -/
section
variable (K : PySem.W.Frag)
def ED (te : TE) (δ : List SV) (d : D) : Prop := ∀ (B0 H0 B H : Hp) (σ : L2.St) (Q : VK), Sd K B0 H0 B H σ δ → (∀ v B' H', Stp B H B' H' → Dq K B' v d → Q v H') → te σ H Q
def ET (tt : TT) (δ : List SV) (b : Bool) : Prop := ∀ (B0 H0 B H : Hp) (σ : L2.St) (Q : Bool → Hp → Prop), Sd K B0 H0 B H σ δ → (∀ B' H', Stp B H B' H' → Q b H') → tt σ H Q
def EA (ta : TA) (δ : List SV) (ds : List D) : Prop := ∀ (B0 H0 B H : Hp) (σ : L2.St) (Q : List V → Hp → Prop), Sd K B0 H0 B H σ δ → (∀ vs B' H', Stp B H B' H' → DqAll K B' vs ds → Q vs H') → ta σ H Q
def EO (to : TO) (δ : List SV) (o : Option Int) : Prop := ∀ (B0 H0 B H : Hp) (σ : L2.St) (Q : Option Int → Hp → Prop), Sd K B0 H0 B H σ δ → (∀ B' H', Stp B H B' H' → Q o H') → to σ H Q
/-- a new list -/
def EN (te : TE) (δ : List SV) (ds : List D) : Prop := ∀ (B0 H0 B H : Hp) (σ : L2.St) (Q : VK), Sd K B0 H0 B H σ δ → (∀ p vs B' H', Stp B H B' H' → H p = none → B' p = none → H' p = some (.lst vs) → DqAll K B' vs ds → Q (.ref p) H') → te σ H Q
end
section
variable {K : PySem.W.Frag} {δ : List SV} {ta tb te : TE} {t u : TT} {d x y : D} {ds es : List D}
theorem EN.ed (h : EN K te δ ds) : ED K te δ (.list ds) := fun B0 H0 B H σ Q S q => h B0 H0 B H σ Q S fun p vs B' H' s hn hb hp a => by
  obtain ⟨k1, k2⟩ := Stp.know (o := .lst vs) s.bh hb hp
  refine q (.ref p) (upd B' p (.lst vs)) H' ⟨s.bb.trans k1, k2, s.hh, fun b q1 z => ?_⟩ (.lst (.inl (.inl upd_same)) (DqAll.up k1 _ _ a))
  have hbp : b ≠ p := fun e => by subst e; exact q1 hn
  rw [upd_ne hbp]
  exact s.fr b q1 z
theorem ed_var {i : Nat} (h : δ[i]? = some (.val d)) : ED K (tVar i) δ d := fun B0 H0 B H σ Q S q => by
  obtain ⟨v, a, b⟩ := S.slot h
  exact ⟨v, a, q v B H (.refl S.hist.bh) b⟩
inductive Sc : V → D → Prop
  | non : Sc .non .none
  | bl (b : Bool) : Sc (.bl b) (.bool b)
  | int (i : Int) : Sc (.int i) (.int i)
  | str (x : Str) : Sc (.str x) (.str x)
theorem Sc.dp {H : Hp} {v : V} : Sc v d → Dq K H v d
  | .non => .non
  | .bl b => .bl b
  | .int i => .int i
  | .str x => .str x
theorem ed_c {v : V} (h : Sc v d) : ED K (tC v) δ d := fun B0 H0 B H σ Q S q => q v B H (.refl S.hist.bh) h.dp
theorem ed_int {i : Int} : ED K (tC (.int i)) δ (.int i) := ed_c (.int i)
theorem ed_bl {b : Bool} : ED K (tC (.bl b)) δ (.bool b) := ed_c (.bl b)
theorem ed_non : ED K (tC .non) δ .none := ed_c .non
theorem ed_str {x : Str} : ED K (tC (.str x)) δ (.str x) := ed_c (.str x)
theorem ed_rI {C : Int → Int → Prop} {g : Int → Int → V} {i j : Int} (ha : ED K ta δ (.int i)) (hb : ED K tb δ (.int j)) (hc : C i j) (hg : Sc (g i j) d) : ED K (tOp (rI C g) ta tb) δ d := fun B0 H0 B H σ Q S q =>
  ha B0 H0 B H σ _ S fun v B1 H1 s1 a => hb B0 H0 B1 H1 σ _ (S.step s1) fun w B2 H2 s2 b => by
    cases Dq.int_inv a; cases Dq.int_inv b
    exact ⟨i, j, rfl, rfl, hc, q _ B2 H2 (s1.trans s2) hg.dp⟩
theorem ed_rI0 {g : Int → Int → V} {i j : Int} (ha : ED K ta δ (.int i)) (hb : ED K tb δ (.int j)) (hg : Sc (g i j) d) : ED K (tOp (rI0 g) ta tb) δ d := fun B0 H0 B H σ Q S q =>
  ha B0 H0 B H σ _ S fun v B1 H1 s1 a => hb B0 H0 B1 H1 σ _ (S.step s1) fun w B2 H2 s2 b => by
    cases Dq.int_inv a; cases Dq.int_inv b
    exact ⟨i, j, rfl, rfl, q _ B2 H2 (s1.trans s2) hg.dp⟩
theorem ed_rU {g : Int → V} {i : Int} (ha : ED K ta δ (.int i)) (hg : Sc (g i) d) : ED K (tUn (rU g) ta) δ d := fun B0 H0 B H σ Q S q =>
  ha B0 H0 B H σ _ S fun v B1 H1 s1 a => by
    cases Dq.int_inv a
    exact ⟨i, rfl, q _ B1 H1 s1 hg.dp⟩
theorem ed_eqD (ha : ED K ta δ x) (hb : ED K tb δ y) (sx : SeqAt.shaped x = true) (sy : SeqAt.shaped y = true) {b : Bool} (e : PyData.eqv x y = b) : ED K (tOp (rEqD K) ta tb) δ (.bool b) := fun B0 H0 B H σ Q S q =>
  ha B0 H0 B H σ _ S fun v B1 H1 s1 a => hb B0 H0 B1 H1 σ _ (S.step s1) fun w B2 H2 s2 c =>
    ⟨x, y, Dq.dp _ _ (Dq.up (s2.bb.trans s2.bh) _ _ a) (PySem.SeqAt.canLay_of_shaped sx), Dq.dp _ _ (Dq.up s2.bh _ _ c) (PySem.SeqAt.canLay_of_shaped sy), sx, sy, by rw [e]; exact q _ B2 H2 (s1.trans s2) (.bl b)⟩
theorem ed_neD (ha : ED K ta δ x) (hb : ED K tb δ y) (sx : SeqAt.shaped x = true) (sy : SeqAt.shaped y = true) {b : Bool} (e : (!PyData.eqv x y) = b) : ED K (tOp (rNeD K) ta tb) δ (.bool b) := fun B0 H0 B H σ Q S q =>
  ha B0 H0 B H σ _ S fun v B1 H1 s1 a => hb B0 H0 B1 H1 σ _ (S.step s1) fun w B2 H2 s2 c =>
    ⟨x, y, Dq.dp _ _ (Dq.up (s2.bb.trans s2.bh) _ _ a) (PySem.SeqAt.canLay_of_shaped sx), Dq.dp _ _ (Dq.up s2.bh _ _ c) (PySem.SeqAt.canLay_of_shaped sy), sx, sy, by rw [e]; exact q _ B2 H2 (s1.trans s2) (.bl b)⟩
/-- the item of data at an int -/
def itemD (x : D) (i : Int) : Option D := match x with
  | .list ds => atI ds i
  | .tuple ds => atI ds i
  | _ => none
theorem atI_dp {H : Hp} {vs : List V} {i : Int} (h : DqAll K H vs ds) (e : atI ds i = some d) : ∃ v, atI vs i = some v ∧ Dq K H v d := by
  unfold atI at e ⊢
  rw [h.len]
  cases q : ixN ds.length i with
  | none => rw [q] at e; cases e
  | some j =>
    rw [q] at e
    exact h.get e
theorem ed_ix {i : Int} (ha : ED K ta δ x) (hb : ED K tb δ (.int i)) (e : itemD x i = some d) : ED K (tOp (rIx K) ta tb) δ d := fun B0 H0 B H σ Q S q =>
  ha B0 H0 B H σ _ S fun v B1 H1 s1 a => hb B0 H0 B1 H1 σ _ (S.step s1) fun w B2 H2 s2 c => by
    cases Dq.int_inv c
    cases a with
    | lst hs hA =>
      obtain ⟨v, e1, e2⟩ := atI_dp hA e
      exact .inl ⟨_, _, i, v, rfl, rfl, (s2.bb.trans s2.bh).seq hs, e1, q v B2 H2 (s1.trans s2) (Dq.up s2.bb _ _ e2)⟩
    | tup hs hA =>
      obtain ⟨v, e1, e2⟩ := atI_dp hA e
      exact .inr (.inl ⟨_, _, i, v, rfl, rfl, sqT_up (s2.bb.trans s2.bh) hs, e1, q v B2 H2 (s1.trans s2) (Dq.up s2.bb _ _ e2)⟩)
    | _ => cases e
/-- an owned list's item -/
theorem ed_ixOwn {k : Nat} {i : Int} (ha : δ[k]? = some (.own (.l ds))) (hb : ED K tb δ (.int i)) (e : atI ds i = some d) : ED K (tOp (rIx K) (tVar k) tb) δ d := fun B0 H0 B H σ Q S q => by
  obtain ⟨p, vs, a1, _⟩ := S.slotOwn ha
  refine ⟨_, a1, hb B0 H0 B H σ _ S fun w B2 H2 s2 c => ?_⟩
  cases Dq.int_inv c
  obtain ⟨p', vs', b1, b2, b3, b4, b5⟩ := (S.step s2).slotOwn ha
  rw [a1] at b1; cases b1
  obtain ⟨v, e1, e2⟩ := atI_dp b5 e
  exact .inl ⟨_, _, i, v, rfl, rfl, .inl (.inl b2), e1, q v B2 H2 s2 e2⟩
theorem sz_small {n : Nat} (h : n ≤ 100000) : n ≤ sizeLine := Nat.le_trans h (by decide)
theorem ea_nil : EA K tNil δ [] := fun B0 H0 B H σ Q S q => q [] B H (.refl S.hist.bh) .nil
theorem ea_cons {tr : TA} (ha : ED K ta δ d) (hr : EA K tr δ ds) : EA K (tCons ta tr) δ (d :: ds) := fun B0 H0 B H σ Q S q =>
  ha B0 H0 B H σ _ S fun v B1 H1 s1 a => hr B0 H0 B1 H1 σ _ (S.step s1) fun vs B2 H2 s2 b => q _ B2 H2 (s1.trans s2) (.cons (Dq.up s2.bb _ _ a) b)
theorem ed_tup {ta : TA} (h : EA K ta δ ds) (hl : ds.length ≤ sizeLine) : ED K (tTup ta) δ (.tuple ds) := fun B0 H0 B H σ Q S q =>
  h B0 H0 B H σ _ S fun vs B1 H1 s1 a => ⟨by rw [a.len]; exact hl, fun p hp =>
    q (.ref p) (upd B1 p (.tup vs)) _ (s1.trans (.new s1.bh hp)) (.tup (.inl (.inl upd_same)) (DqAll.up (same_new (s1.bh.free hp)) _ _ a))⟩
theorem en_lst {ta : TA} (h : EA K ta δ ds) (hl : ds.length ≤ sizeLine) : EN K (tLst ta) δ ds := fun B0 H0 B H σ Q S q =>
  h B0 H0 B H σ _ S fun vs B1 H1 s1 a => ⟨by rw [a.len]; exact hl, fun p hp =>
    q p vs B1 _ (s1.trans (.newOwn s1.bh hp)) (s1.hh.free hp) (s1.bh.free hp) upd_same a⟩
/-- the promise of a def over data -/
def spD (K : PySem.W.Frag) (R : List D → D → Prop) : Sp := fun vs H Q _ => ∃ B ds d, R ds d ∧ Bh B H ∧ DqAll K B vs ds ∧ ∀ v B' H', Stp B H B' H' → Dq K B' v d → Q v H'
theorem ed_call {ta : TA} {R : List D → D → Prop} {E : XK} (h : EA K ta δ ds) (r : R ds d) : ED K (tCall (spD K R) [] E ta) δ d := fun B0 H0 B H σ Q S q =>
  h B0 H0 B H σ _ S fun vs B1 H1 s1 a => ⟨B1, ds, d, r, s1.bh, by rw [List.append_nil]; exact a, fun v B' H' s2 b => q v B' H' (s1.trans s2) b⟩
/-! ### tests -/
theorem et_test {b : Bool} (h : ED K te δ (.bool b)) : ET K (tTest te) δ b := fun B0 H0 B H σ Q S q =>
  h B0 H0 B H σ _ S fun v B1 H1 s1 a => by
    cases Dq.bool_inv a
    exact ⟨b, rfl, q B1 H1 s1⟩
theorem et_B {b : Bool} (h : ED K te δ (.bool b)) : ET K (tB te) δ b := fun B0 H0 B H σ Q S q =>
  h B0 H0 B H σ _ S fun v B1 H1 s1 a => by
    cases Dq.bool_inv a
    exact ⟨b, rfl, q B1 H1 s1⟩
theorem et_and {a b : Bool} (h1 : ET K t δ a) (h2 : a = true → ET K u δ b) : ET K (tAnd t u) δ (a && b) := fun B0 H0 B H σ Q S q => h1 B0 H0 B H σ _ S fun B1 H1 s1 => by
  cases a with
  | true => exact iteT (h2 rfl B0 H0 B1 H1 σ _ (S.step s1) fun B2 H2 s2 => q B2 H2 (s1.trans s2))
  | false => exact iteF (q B1 H1 s1)
theorem et_or {a b : Bool} (h1 : ET K t δ a) (h2 : a = false → ET K u δ b) : ET K (tOr t u) δ (a || b) := fun B0 H0 B H σ Q S q => h1 B0 H0 B H σ _ S fun B1 H1 s1 => by
  cases a with
  | false => exact iteF (h2 rfl B0 H0 B1 H1 σ _ (S.step s1) fun B2 H2 s2 => q B2 H2 (s1.trans s2))
  | true => exact iteT (q B1 H1 s1)
theorem et_not {a : Bool} (h1 : ET K t δ a) : ET K (tNot t) δ (!a) := fun B0 H0 B H σ Q S q => h1 B0 H0 B H σ _ S fun B1 H1 s1 => q B1 H1 s1
theorem ed_andV {a b : Bool} (h1 : ED K ta δ (.bool a)) (h2 : a = true → ED K tb δ (.bool b)) : ED K (tAndV ta tb) δ (.bool (a && b)) := fun B0 H0 B H σ Q S q => h1 B0 H0 B H σ _ S fun v B1 H1 s1 c => by
  cases Dq.bool_inv c
  refine ⟨a, rfl, ?_⟩
  cases a with
  | true => exact iteT (h2 rfl B0 H0 B1 H1 σ _ (S.step s1) fun w B2 H2 s2 => q w B2 H2 (s1.trans s2))
  | false => exact iteF (q _ B1 H1 s1 (.bl false))
theorem ed_orV {a b : Bool} (h1 : ED K ta δ (.bool a)) (h2 : a = false → ED K tb δ (.bool b)) : ED K (tOrV ta tb) δ (.bool (a || b)) := fun B0 H0 B H σ Q S q => h1 B0 H0 B H σ _ S fun v B1 H1 s1 c => by
  cases Dq.bool_inv c
  refine ⟨a, rfl, ?_⟩
  cases a with
  | false => exact iteF (h2 rfl B0 H0 B1 H1 σ _ (S.step s1) fun w B2 H2 s2 => q w B2 H2 (s1.trans s2))
  | true => exact iteT (q _ B1 H1 s1 (.bl true))
theorem ed_notV {a : Bool} (h1 : ED K ta δ (.bool a)) : ED K (tNotV ta) δ (.bool (!a)) := fun B0 H0 B H σ Q S q => h1 B0 H0 B H σ _ S fun v B1 H1 s1 c => by
  cases Dq.bool_inv c
  exact ⟨a, rfl, q _ B1 H1 s1 (.bl _)⟩
theorem ed_if {b : Bool} (h : ET K t δ b) (h1 : b = true → ED K ta δ d) (h2 : b = false → ED K tb δ d) : ED K (tIf t ta tb) δ d := fun B0 H0 B H σ Q S q => h B0 H0 B H σ _ S fun B1 H1 s1 => by
  cases b with
  | true => exact iteT (h1 rfl B0 H0 B1 H1 σ _ (S.step s1) fun w B2 H2 s2 => q w B2 H2 (s1.trans s2))
  | false => exact iteF (h2 rfl B0 H0 B1 H1 σ _ (S.step s1) fun w B2 H2 s2 => q w B2 H2 (s1.trans s2))
end
end DX

namespace DX
open PySem L2
variable [TabEnv]

/-! ### built-in calls, by name -/
def rAbsQ : List V → Hp → VK → Prop := fun xs H Q => ∃ i, xs = [.int i] ∧ Q (.int (if i < 0 then -i else i)) H
def rMax2Q : List V → Hp → VK → Prop := fun xs H Q => ∃ i j, xs = [.int i, .int j] ∧ Q (.int (if j > i then j else i)) H
def rMin2Q : List V → Hp → VK → Prop := fun xs H Q => ∃ i j, xs = [.int i, .int j] ∧ Q (.int (if j < i then j else i)) H
def rIntQ : List V → Hp → VK → Prop := fun xs H Q => (∃ i, xs = [.int i] ∧ Q (.int i) H) ∨ ∃ k, xs = [.bl k] ∧ Q (.int (if k then 1 else 0)) H
def rListQ (K : PySem.W.Frag) : List V → Hp → VK → Prop := fun xs H Q => ∃ p ys, xs = [.ref p] ∧ (SqL K H p ys ∨ SqT K H p ys) ∧ ∀ l, H l = none → Q (.ref l) (upd H l (.lst ys))
def rTupleQ (K : PySem.W.Frag) : List V → Hp → VK → Prop := fun xs H Q => ∃ p ys, xs = [.ref p] ∧ ((SqL K H p ys ∧ ∀ l, H l = none → Q (.ref l) (upd H l (.tup ys))) ∨ (SqT K H p ys ∧ Q (.ref p) H))
def rLenQ (K : PySem.W.Frag) : List V → Hp → VK → Prop := fun xs H Q => ∃ p ys, xs = [.ref p] ∧ (SqL K H p ys ∨ SqT K H p ys) ∧ Q (.int ys.length) H
section
variable {X : Cx}
theorem cr_lenQ : CallR X (.builtin "len") (rLenQ X.K) := call_len_seq
theorem cr_absQ : CallR X (.builtin "abs") rAbsQ := call_abs
theorem cr_max2 (hc : X.calm = true) : CallR X (.builtin "max") rMax2Q := call_max2 hc
theorem cr_min2 (hc : X.calm = true) : CallR X (.builtin "min") rMin2Q := call_min2 hc
theorem cr_intQ : CallR X (.type "int") rIntQ := call_int1
theorem cr_listQ : CallR X (.type "list") (rListQ X.K) := call_list_of
theorem cr_tupleQ : CallR X (.type "tuple") (rTupleQ X.K) := call_tuple_of
end
def CMulX (i j : Int) : Prop := CMul i j ∨ CMulW i j
section
variable {X : Cx}
theorem op_mulX : OpR X (binaryOp .Mult) (rI CMulX fun i j => .int (i * j)) := opI fun _ _ _ _ _ _ _ hc q => PyProof.Rows.mul_int q (hc.elim (·.ok) (·.ok))
end
/-! ### operators of any size -/
def CDivX (_ j : Int) : Prop := j ≠ 0 ∧ j.natAbs.log2 < 9000
section
variable {X : Cx}
theorem op_fdivX : OpR X (binaryOp .FloorDiv) (rI CDivX fun i j => .int (i.fdiv j)) := opI fun i j _ _ _ _ _ hc q =>
  PyProof.Rows.floordiv_int hc.1 q (.inl (PyProof.noPylong_of_log2 hc.2))
end

section
variable {K : PySem.W.Frag} {δ : List SV} {ta tb te : TE} {t u : TT} {d x y : D} {ds es : List D}
/-! ### built-in calls -/
theorem ed_cb {r : List V → Hp → VK → Prop} {ta : TA} (h : EA K ta δ ds) (hr : ∀ B H vs (Q : VK), Bh B H → DqAll K B vs ds → (∀ v B' H', Stp B H B' H' → Dq K B' v d → Q v H') → r vs H Q) : ED K (tCB r ta) δ d := fun B0 H0 B H σ Q S q =>
  h B0 H0 B H σ _ S fun vs B1 H1 s1 a => hr B1 H1 vs Q s1.bh a fun v B' H' s2 b => q v B' H' (s1.trans s2) b
theorem en_cb {r : List V → Hp → VK → Prop} {ta : TA} (h : EA K ta δ ds) (hr : ∀ B H vs (Q : VK), Bh B H → DqAll K B vs ds → (∀ p ws, H p = none → DqAll K B ws es → Q (.ref p) (upd H p (.lst ws))) → r vs H Q) : EN K (tCB r ta) δ es := fun B0 H0 B H σ Q S q =>
  h B0 H0 B H σ _ S fun vs B1 H1 s1 a => hr B1 H1 vs Q s1.bh a fun p ws np b => q p ws B1 _ (s1.trans (.newOwn s1.bh np)) (s1.hh.free np) (s1.bh.free np) upd_same b
theorem _root_.L2.DqAll.one {B : Hp} {vs : List V} (h : DqAll K B vs [d]) : ∃ v, vs = [v] ∧ Dq K B v d := by
  cases h with
  | cons h1 h2 => cases h2; exact ⟨_, rfl, h1⟩
theorem _root_.L2.DqAll.two {B : Hp} {vs : List V} (h : DqAll K B vs [x, y]) : ∃ v w, vs = [v, w] ∧ Dq K B v x ∧ Dq K B w y := by
  cases h with
  | cons h1 h2 => cases h2 with
    | cons h2 h3 => cases h3; exact ⟨_, _, rfl, h1, h2⟩
/-- len of list or tuple data -/
def lenD : D → Option Nat
  | .list ds => some ds.length
  | .tuple ds => some ds.length
  | _ => none
def rLenQ0 (K : PySem.W.Frag) : List V → Hp → VK → Prop := fun xs H Q => ∃ p ys, xs = [.ref p] ∧ (SqL K H p ys ∨ SqT K H p ys) ∧ Q (.int ys.length) H
theorem ed_len {n : Nat} (h : ED K te δ x) (e : lenD x = some n) : ED K (tCB (rLenQ K) (tCons te tNil)) δ (.int n) :=
  ed_cb (ea_cons h ea_nil) fun B H vs Q bh a q => by
    obtain ⟨v, rfl, b⟩ := a.one
    cases b with
    | lst hs hA =>
      cases e
      exact ⟨_, _, rfl, .inl (bh.seq hs), q _ B H (.refl bh) (by rw [hA.len]; exact .int _)⟩
    | tup hs hA =>
      cases e
      exact ⟨_, _, rfl, .inr (sqT_up bh hs), q _ B H (.refl bh) (by rw [hA.len]; exact .int _)⟩
    | _ => cases e
theorem ed_lenOwn {k : Nat} (e : δ[k]? = some (.own (.l ds))) : ED K (tCB (rLenQ K) (tCons (tVar k) tNil)) δ (.int ds.length) := fun B0 H0 B H σ Q S q => by
  obtain ⟨p, vs, a, b, c, c', d⟩ := S.slotOwn e
  exact ⟨_, a, p, vs, rfl, .inl (.inl (.inl b)), q _ B H (.refl S.hist.bh) (by rw [d.len]; exact .int _)⟩
theorem ed_abs {i : Int} (h : ED K te δ (.int i)) : ED K (tCB rAbsQ (tCons te tNil)) δ (.int i.natAbs) :=
  ed_cb (ea_cons h ea_nil) fun B H vs Q bh a q => by
    obtain ⟨v, rfl, b⟩ := a.one
    cases Dq.int_inv b
    refine ⟨i, rfl, q _ B H (.refl bh) ?_⟩
    have e : (if i < 0 then -i else i) = (i.natAbs : Int) := by split <;> omega
    rw [e]; exact .int _
theorem ed_max2 {i j : Int} (h : ED K ta δ (.int i)) (h' : ED K tb δ (.int j)) : ED K (tCB rMax2Q (tCons ta (tCons tb tNil))) δ (.int (max i j)) :=
  ed_cb (ea_cons h (ea_cons h' ea_nil)) fun B H vs Q bh a q => by
    obtain ⟨v, w, rfl, b, c⟩ := a.two
    cases Dq.int_inv b; cases Dq.int_inv c
    refine ⟨i, j, rfl, q _ B H (.refl bh) ?_⟩
    have e : (if j > i then j else i) = max i j := by split <;> omega
    rw [e]; exact .int _
theorem ed_min2 {i j : Int} (h : ED K ta δ (.int i)) (h' : ED K tb δ (.int j)) : ED K (tCB rMin2Q (tCons ta (tCons tb tNil))) δ (.int (min i j)) :=
  ed_cb (ea_cons h (ea_cons h' ea_nil)) fun B H vs Q bh a q => by
    obtain ⟨v, w, rfl, b, c⟩ := a.two
    cases Dq.int_inv b; cases Dq.int_inv c
    refine ⟨i, j, rfl, q _ B H (.refl bh) ?_⟩
    have e : (if j < i then j else i) = min i j := by split <;> omega
    rw [e]; exact .int _
/-- int(n), int(flag) -/
def intD : D → Option Int
  | .int i => some i
  | .bool b => some (if b then 1 else 0)
  | _ => none
theorem ed_int1 {i : Int} (h : ED K te δ x) (e : intD x = some i) : ED K (tCB rIntQ (tCons te tNil)) δ (.int i) :=
  ed_cb (ea_cons h ea_nil) fun B H vs Q bh a q => by
    obtain ⟨v, rfl, b⟩ := a.one
    cases b with
    | int j => cases e; exact .inl ⟨_, rfl, q _ B H (.refl bh) (.int _)⟩
    | bl c => cases e; exact .inr ⟨_, rfl, q _ B H (.refl bh) (.int _)⟩
    | _ => cases e
theorem ed_gcd {i j : Int} (h : ED K ta δ (.int i)) (h' : ED K tb δ (.int j)) : ED K (tCB rGcd (tCons ta (tCons tb tNil))) δ (.int (Nat.gcd i.natAbs j.natAbs : Nat)) :=
  ed_cb (ea_cons h (ea_cons h' ea_nil)) fun B H vs Q bh a q => by
    obtain ⟨v, w, rfl, b, c⟩ := a.two
    cases Dq.int_inv b; cases Dq.int_inv c
    exact ⟨i, j, rfl, q _ B H (.refl bh) (.int _)⟩
end
/-- math.lcm of two ints -/
def rLcm : List V → Hp → VK → Prop := fun vs H Q => ∃ a b : Int, vs = [.int a, .int b] ∧ (a.natAbs < 2 ^ 13000 ∧ b.natAbs < 2 ^ 13000) ∧ Q (.int ((Nat.lcm a.natAbs b.natAbs : Nat) : Int)) H
theorem lcm_le (a b : Nat) : Nat.lcm a b ≤ a * b := by
  unfold Nat.lcm
  exact Nat.div_le_self _ _
theorem lt_of_log {n k : Nat} (h : n < 2 ^ k) (h0 : 0 < k) : n.log2 < k := PySem.Flt.log2_lt_of h0 (by simpa using h)
theorem cr_lcm {X : Cx} : CallR X (.builtin "math.lcm") rLcm := by
  intro pins s σ H vs us Q I r h
  obtain ⟨a, b, rfl, ⟨ha, hb⟩, q⟩ := h
  obtain ⟨t, u, rfl⟩ := Vals.int2 r
  have e1 : (Nat.lcm 1 a.natAbs).lcm b.natAbs = Nat.lcm a.natAbs b.natAbs := by rw [Nat.lcm_one_left]
  have h1 : (max 1 a.natAbs).log2 < 13000 := lt_of_log (by have := Nat.one_lt_two_pow (n := 13000) (by decide); omega) (by decide)
  have h2 : (max a.natAbs b.natAbs).log2 < 13000 := lt_of_log (by omega) (by decide)
  have h3 : (((Nat.lcm 1 a.natAbs).lcm b.natAbs : Nat) : Int).natAbs < 2 ^ 26000 := by
    rw [e1]
    show Nat.lcm a.natAbs b.natAbs < 2 ^ 26000
    refine Nat.lt_of_le_of_lt (lcm_le _ _) ?_
    rw [show (26000 : Nat) = 13000 + 13000 from rfl, Nat.pow_add]
    exact Nat.mul_lt_mul'' ha hb
  have h4 : (((Nat.lcm 1 a.natAbs).lcm b.natAbs : Nat) : Int).natAbs.log2 < bitsLine := Nat.lt_of_lt_of_le (lt_of_log h3 (by decide)) (by decide)
  refine PySem.call_function_meets PySem.W.MGF.kind_lcm PySem.W.MGF.plain_lcm PySem.W.MGF.entry_lcm (PySem.W.MGF.args_lcm _ _) (PySem.W.mg_run_lcm a t b u (by omega) (by omega) h4).meets ?_
  rw [e1]
  exact ⟨.int _, H, I.tok _, ⟨_, rfl⟩, q⟩
section
variable {K : PySem.W.Frag} {δ : List SV} {ta tb te : TE} {t u : TT} {d x y : D} {ds es : List D}
theorem ed_lcm {i j : Int} (h : ED K ta δ (.int i)) (h' : ED K tb δ (.int j)) (hi : i.natAbs < 2 ^ 13000) (hj : j.natAbs < 2 ^ 13000) : ED K (tCB rLcm (tCons ta (tCons tb tNil))) δ (.int (Nat.lcm i.natAbs j.natAbs : Nat)) :=
  ed_cb (ea_cons h (ea_cons h' ea_nil)) fun B H vs Q bh a q => by
    obtain ⟨v, w, rfl, b, c⟩ := a.two
    cases Dq.int_inv b; cases Dq.int_inv c
    exact ⟨i, j, rfl, ⟨hi, hj⟩, q _ B H (.refl bh) (.int _)⟩
/-- the items of list or tuple data -/
def itemsD : D → Option (List D)
  | .list ds => some ds
  | .tuple ds => some ds
  | _ => none
theorem en_list (h : ED K te δ x) (e : itemsD x = some ds) : EN K (tCB (rListQ K) (tCons te tNil)) δ ds :=
  en_cb (ea_cons h ea_nil) fun B H vs Q bh a q => by
    obtain ⟨v, rfl, b⟩ := a.one
    cases b with
    | lst hs hA => cases e; exact ⟨_, _, rfl, .inl (bh.seq hs), fun l hl => q l _ hl hA⟩
    | tup hs hA => cases e; exact ⟨_, _, rfl, .inr (sqT_up bh hs), fun l hl => q l _ hl hA⟩
    | _ => cases e
theorem en_listOwn {k : Nat} (e : δ[k]? = some (.own (.l ds))) : EN K (tCB (rListQ K) (tCons (tVar k) tNil)) δ ds := fun B0 H0 B H σ Q S q => by
  obtain ⟨p, vs, a, b, c, c', d⟩ := S.slotOwn e
  exact ⟨_, a, p, vs, rfl, .inl (.inl (.inl b)), fun l hl => q l _ B _ (.newOwn S.hist.bh hl) hl (S.hist.bh.free hl) upd_same d⟩
/-- tuple(x) -/
theorem ed_tupleOf (h : ED K te δ x) (e : itemsD x = some ds) : ED K (tCB (rTupleQ K) (tCons te tNil)) δ (.tuple ds) :=
  ed_cb (ea_cons h ea_nil) fun B H vs Q bh a q => by
    obtain ⟨v, rfl, b⟩ := a.one
    cases b with
    | lst hs hA =>
      cases e
      exact ⟨_, _, rfl, .inl ⟨bh.seq hs, fun l hl => q _ (upd B l _) _ (.new bh hl) (.tup (.inl (.inl upd_same)) (DqAll.up (same_new (bh.free hl)) _ _ hA))⟩⟩
    | tup hs hA => cases e; exact ⟨_, _, rfl, .inr ⟨sqT_up bh hs, q _ B H (.refl bh) (.tup hs hA)⟩⟩
    | _ => cases e
/-- sum of ints, all and any of bools -/
theorem ed_sum {ns : List Int} (h : ED K te δ (.list (ns.map PyData.int))) : ED K (tCB (rSum K) (tCons te tNil)) δ (.int ns.sum) :=
  ed_cb (ea_cons h ea_nil) fun B H vs Q bh a q => by
    obtain ⟨v, rfl, b⟩ := a.one
    cases b with
    | lst hs hA => cases hA.ints; exact ⟨_, ns, rfl, bh.seq hs, q _ B H (.refl bh) (.int _)⟩
theorem ed_all {bs : List Bool} (h : ED K te δ (.list (bs.map PyData.bool))) : ED K (tCB (rAll K) (tCons te tNil)) δ (.bool (bs.all id)) :=
  ed_cb (ea_cons h ea_nil) fun B H vs Q bh a q => by
    obtain ⟨v, rfl, b⟩ := a.one
    cases b with
    | lst hs hA => cases hA.bools; exact ⟨_, bs, rfl, bh.seq hs, q _ B H (.refl bh) (.bl _)⟩
theorem ed_any {bs : List Bool} (h : ED K te δ (.list (bs.map PyData.bool))) : ED K (tCB (rAny K) (tCons te tNil)) δ (.bool (bs.any id)) :=
  ed_cb (ea_cons h ea_nil) fun B H vs Q bh a q => by
    obtain ⟨v, rfl, b⟩ := a.one
    cases b with
    | lst hs hA => cases hA.bools; exact ⟨_, bs, rfl, bh.seq hs, q _ B H (.refl bh) (.bl _)⟩
/-- isinstance of data, a built-in class -/
def tyName : D → String
  | .none => "NoneType"
  | .bool _ => "bool"
  | .int _ => "int"
  | .str _ => "str"
  | .list _ => "list"
  | .tuple _ => "tuple"
  | .dict _ => "dict"
theorem tyx_of {B H : Hp} {v : V} (bh : Bh B H) (h : Dq K B v d) : TyX K H v (.type (tyName d)) := by
  cases h with
  | non => exact .base .non
  | bl b => exact .base (.bl b)
  | int i => exact .base (.int i)
  | str x => exact .base (.str x)
  | lst hs _ =>
    rcases hs with (h | ⟨o, h⟩) | ⟨o, its, n, h1, h2, _⟩
    · exact .base (.lst (bh.at h))
    · exact .base (.frz (bh.at h))
    · exact .kList h1 h2
  | tup hs _ =>
    rcases hs with (h | ⟨o, h⟩) | ⟨o, its, n, h1, h2, _⟩
    · exact .base (.tup (bh.at h))
    · exact .fTuple (bh.at h)
    · exact .kTuple h1 h2
  | dct hs _ =>
    rcases hs with h | ⟨o, h⟩
    · exact .base (.dK (bh.at h))
    · exact .fDict (bh.at h)
theorem ed_isi {n : String} {b : Bool} (h : ED K te δ d) (e : kitB (tyName d) n = some b) : ED K (tCB (rIsi K) (tCons te (tCons (tC (.ty n)) tNil))) δ (.bool b) := fun B0 H0 B H σ Q S q =>
  h B0 H0 B H σ _ S fun v B1 H1 s1 a => ⟨v, .ty n, _, _, b, rfl, .ty n, tyx_of s1.bh a, kit_ty e, q _ B1 H1 s1 (.bl b)⟩
/-! ### new lists -/
theorem en_cat (ha : EN K ta δ ds) (hb : EN K tb δ es) (hl : ds.length + es.length ≤ sizeLine) : EN K (tOp rCat ta tb) δ (ds ++ es) := fun B0 H0 B H σ Q S q =>
  ha B0 H0 B H σ _ S fun p vs B1 H1 s1 n1 b1 e1 a1 => hb B0 H0 B1 H1 σ _ (S.step s1) fun p2 ws B2 H2 s2 n2 b2 e2 a2 =>
    ⟨p, p2, vs, ws, rfl, rfl, s2.hh.at e1, e2, by rw [a1.len, a2.len]; exact hl, fun l hl => q l _ B2 _ ((s1.trans s2).trans (.newOwn s2.bh hl)) ((s1.trans s2).hh.free hl) (s2.bh.free hl) upd_same ((DqAll.up s2.bb _ _ a1).app a2)⟩
theorem dqall_rep {B : Hp} {vs : List V} (h : DqAll K B vs ds) : ∀ n : Nat, DqAll K B (List.replicate n vs).flatten (List.replicate n ds).flatten
  | 0 => .nil
  | n + 1 => by
    rw [List.replicate_succ, List.replicate_succ, List.flatten_cons, List.flatten_cons]
    exact h.app (dqall_rep h n)
theorem en_rep {k : Int} (ha : EN K ta δ ds) (hb : ED K tb δ (.int k)) (h1 : -(2 ^ 63) ≤ k ∧ k < 2 ^ 63) (hl : ds.length * k.toNat ≤ sizeLine) : EN K (tOp rRep ta tb) δ (List.replicate k.toNat ds).flatten := fun B0 H0 B H σ Q S q =>
  ha B0 H0 B H σ _ S fun p vs B1 H1 s1 n1 b1 e1 a1 => hb B0 H0 B1 H1 σ _ (S.step s1) fun w B2 H2 s2 c => by
    cases Dq.int_inv c
    exact ⟨p, k, vs, rfl, rfl, s2.hh.at e1, h1.1, h1.2, by rw [a1.len]; exact hl, fun l hl => q l _ B2 _ ((s1.trans s2).trans (.newOwn s2.bh hl)) ((s1.trans s2).hh.free hl) (s2.bh.free hl) upd_same (dqall_rep (DqAll.up s2.bb _ _ a1) _)⟩
theorem dqall_rev {B : Hp} : ∀ {ds : List D} {vs : List V}, DqAll K B vs ds → DqAll K B vs.reverse ds.reverse
  | [], _, h => by cases h; exact .nil
  | d :: ds, _, h => by
    cases h with
    | cons h1 h2 =>
      rw [List.reverse_cons, List.reverse_cons]
      exact (dqall_rev h2).app (.cons h1 .nil)
/-- xs[a:b] of a list -/
def cutD (ds : List D) (lo hi : Option Int) : List D := (ds.drop (HT.sIx ds.length 0 lo)).take (HT.sIx ds.length ds.length hi - HT.sIx ds.length 0 lo)
theorem eo_none : EO K tNoPart δ none := fun B0 H0 B H σ Q S q => q B H (.refl S.hist.bh)
theorem eo_some {i : Int} (h : ED K te δ (.int i)) : EO K (tPart te) δ (some i) := fun B0 H0 B H σ Q S q => h B0 H0 B H σ _ S fun v B1 H1 s1 a => by
  cases Dq.int_inv a
  exact ⟨i, rfl, q B1 H1 s1⟩
theorem en_slice {tl th : TO} {lo hi : Option Int} (h : ED K te δ (.list ds)) (h1 : EO K tl δ lo) (h2 : EO K th δ hi) : EN K (tSl (rSlL K) te tl th) δ (cutD ds lo hi) := fun B0 H0 B H σ Q S q =>
  h B0 H0 B H σ _ S fun v B1 H1 s1 a => h1 B0 H0 B1 H1 σ _ (S.step s1) fun B2 H2 s2 => h2 B0 H0 B2 H2 σ _ ((S.step s1).step s2) fun B3 H3 s3 => by
    cases a with
    | lst hs hA =>
      have st := (s1.trans s2).trans s3
      refine ⟨_, _, rfl, ((s2.trans s3).bb.trans s3.bh).seq hs, fun p hp => q p _ B3 _ (st.trans (.newOwn s3.bh hp)) (st.hh.free hp) (s3.bh.free hp) upd_same ?_⟩
      unfold cutV cutD
      rw [hA.len]
      exact (DqAll.up (s2.trans s3).bb _ _ hA).drop _ |>.take _

/-! ### what is walked -/
/-- from B1 on the walk yields ds -/
def YD (K : PySem.W.Frag) (J : It) (B1 : Hp) (ds : List D) : Prop := ∀ (B H : Hp) (i : Nat), Sam B1 B → Bh B H →
  (i < ds.length → J.go i H ∧ ∀ x H', J.yld i H x H' → ∃ B' d, Stp B H B' H' ∧ ds[i]? = some d ∧ Dq K B' x d) ∧ (i = ds.length → J.stop i H)
def EI (K : PySem.W.Frag) (wi : TI) (δ : List SV) (ds : List D) : Prop := ∀ (B0 H0 B H : Hp) (σ : L2.St) (R : It → Hp → Prop), Sd K B0 H0 B H σ δ → (∀ J B1 H1, Stp B H B1 H1 → YD K J B1 ds → R J H1) → wi σ H R
theorem ei_list (h : ED K te δ (.list ds)) : EI K (iList K te) δ ds := fun B0 H0 B H σ R S q => h B0 H0 B H σ _ S fun v B1 H1 s1 a => by
  cases a with
  | lst hs hA =>
    refine ⟨_, rfl, ⟨_, s1.bh.seq hs⟩, q _ B1 H1 s1 fun B H i e1 e2 => ⟨fun hi => ?_, fun hi => ?_⟩⟩
    · obtain ⟨v, g1, g2⟩ := hA.get (List.getElem?_eq_getElem hi)
      refine ⟨⟨_, v, (e1.trans e2).seq hs, g1⟩, fun x H' y => ?_⟩
      obtain ⟨rfl, y⟩ := y
      have ex := (y _ ((e1.trans e2).seq hs)).symm.trans g1
      cases ex
      exact ⟨B, _, .refl e2, List.getElem?_eq_getElem hi, Dq.up e1 _ _ g2⟩
    · exact ⟨_, (e1.trans e2).seq hs, by rw [hA.len, hi]; exact Nat.le_refl _⟩
theorem ei_tup (h : ED K te δ (.tuple ds)) : EI K (iTup K te) δ ds := fun B0 H0 B H σ R S q => h B0 H0 B H σ _ S fun v B1 H1 s1 a => by
  cases a with
  | tup hs hA =>
    refine ⟨_, rfl, ⟨_, sqT_up s1.bh hs⟩, q _ B1 H1 s1 fun B H i e1 e2 => ⟨fun hi => ?_, fun hi => ?_⟩⟩
    · obtain ⟨v, g1, g2⟩ := hA.get (List.getElem?_eq_getElem hi)
      refine ⟨⟨_, v, sqT_up (e1.trans e2) hs, g1⟩, fun x H' y => ?_⟩
      obtain ⟨rfl, y⟩ := y
      have ex := (y _ (sqT_up (e1.trans e2) hs)).symm.trans g1
      cases ex
      exact ⟨B, _, .refl e2, List.getElem?_eq_getElem hi, Dq.up e1 _ _ g2⟩
    · exact ⟨_, sqT_up (e1.trans e2) hs, by rw [hA.len, hi]; exact Nat.le_refl _⟩
/-- 0, 1, .. below n -/
def rngD (lo : Int) (n : Nat) : List D := (List.range n).map fun k => PyData.int (lo + (k : Nat))
theorem yd_rng {lo : Int} {n : Nat} {B1 : Hp} : YD K (Itr lo n) B1 (rngD lo n) := fun B H i e1 e2 => by
  have hl : (rngD lo n).length = n := by unfold rngD; simp
  refine ⟨fun hi => ⟨by rw [hl] at hi; exact hi, fun x H' y => ?_⟩, fun hi => by rw [hl] at hi; show n ≤ i; omega⟩
  obtain ⟨rfl, rfl⟩ := y
  rw [hl] at hi
  refine ⟨B, .int (lo + i), .refl e2, ?_, .int _⟩
  unfold rngD
  simp [hi]
theorem ei_rng1 {n : Int} (h : ED K te δ (.int n)) (hn : -(2 ^ 62) ≤ n ∧ n < 2 ^ 62) : EI K (iRng1 (tCons te tNil)) δ (rngD 0 n.toNat) := fun B0 H0 B H σ R S q => h B0 H0 B H σ _ S fun v B1 H1 s1 a => by
  cases Dq.int_inv a
  exact ⟨n, rfl, hn.1, hn.2, q _ B1 H1 s1 yd_rng⟩
theorem ei_rng2 {m n : Int} (h : ED K ta δ (.int m)) (h' : ED K tb δ (.int n)) (hn : -(2 ^ 62) ≤ m ∧ m < 2 ^ 62 ∧ -(2 ^ 62) ≤ n ∧ n < 2 ^ 62) : EI K (iRng2 (tCons ta (tCons tb tNil))) δ (rngD m (n - m).toNat) := fun B0 H0 B H σ R S q =>
  h B0 H0 B H σ _ S fun v B1 H1 s1 a => h' B0 H0 B1 H1 σ _ (S.step s1) fun w B2 H2 s2 b => by
  cases Dq.int_inv a; cases Dq.int_inv b
  exact ⟨m, n, rfl, hn, q _ B2 H2 (s1.trans s2) yd_rng⟩

/-! ### comprehensions -/
theorem wipe_gName {σ : L2.St} {i : Nat} {x : Option V} : wipe ((wipe σ [i]).set i x) [i] = wipe σ [i] := by
  show (((σ.set i none).set i x).set i none) = σ.set i none
  rw [List.set_set, List.set_set]
theorem map_take_succ {α β : Type} {f : α → β} {p : α → Bool} {xs : List α} {i : Nat} {x : α} (h : xs[i]? = some x) : ((xs.take (i + 1)).filter p).map f = ((xs.take i).filter p).map f ++ (if p x then [f x] else []) := by
  rw [List.take_add_one, h, List.filter_append, List.map_append]
  cases e : p x <;> simp [e]
theorem en_lcG {α : Type} {xs : List α} {g : α → D} {wi : TI} {tt : TT} {i : Nat} {p : α → Bool} {f : α → D} (hw : EI K wi δ (xs.map g)) (hl : xs.length ≤ sizeLine)
    (ht : ∀ x, x ∈ xs → ET K tt ((δ.set i .no).set i (.val (g x))) (p x)) (he : ∀ x, x ∈ xs → p x = true → ED K te ((δ.set i .no).set i (.val (g x))) (f x)) : EN K (tLc wi (gName i) tt te [i]) δ ((xs.filter p).map f) := fun B0 H0 B H σ Q S q =>
  hw B0 H0 B H σ _ S fun J B1 H1 s1 yd L nL => by
    have S1 := S.step s1
    have hfoot := new_foot (S := S1) nL
    have h0L := S1.hist.hh.free nL
    refine ⟨fun k m H' => m = xs.length - k ∧ k ≤ xs.length ∧ ∃ B' acc, Sd K B1 H0 B' H' σ δ ∧ B' L = none ∧ H' L = some (.lst acc) ∧ DqAll K B' acc (((xs.take k).filter p).map f) ∧ Stp B1 H1 B' H', ⟨_, rfl, Nat.zero_le _, B1, [], ?_, s1.bh.free nL, upd_same, ?_, .newOwn s1.bh nL⟩, ?_⟩
    · exact (S1.past S1.hist.bb (Sam.refl _)).step (.newOwn s1.bh nL)
    · rw [List.take_zero]; exact .nil
    rintro k m H' ⟨rfl, hk, B', acc, S', bL, hL, hA, sp⟩
    obtain ⟨y1, y2⟩ := yd B' H' k S'.hist.bb S'.hist.bh
    by_cases hlt : k < xs.length
    · obtain ⟨go, yy⟩ := y1 (by rw [List.length_map]; exact hlt)
      refine .inr ⟨go, fun H'' => ∃ B'' acc, Sd K B1 H0 B'' H'' σ δ ∧ B'' L = none ∧ H'' L = some (.lst acc) ∧ DqAll K B'' acc (((xs.take (k + 1)).filter p).map f) ∧ Stp B1 H1 B'' H'', fun H'' z => ⟨xs.length - (k + 1), by omega, rfl, hlt, z⟩, fun x H2 yl => ?_⟩
      obtain ⟨B2, d', s2, ed', dp⟩ := yy x H2 yl
      have ed : xs[k]? = some xs[k] := List.getElem?_eq_getElem hlt
      have eg : d' = g xs[k] := by
        rw [List.getElem?_map, ed] at ed'
        exact (Option.some.inj ed').symm
      subst eg
      have hm : xs[k] ∈ xs := List.getElem_mem hlt
      have hLne : H' L ≠ none := by rw [hL]; exact fun z => nomatch z
      have S2 := S'.step s2
      have S3 : Sd K B1 H0 B2 H2 ((wipe σ [i]).set i (some x)) ((δ.set i .no).set i (.val (g xs[k]))) := (S2.forget (i := i) (o := none)).setVal dp
      refine ⟨wipe_gName, ht xs[k] hm B1 H0 B2 H2 _ _ S3 fun B3 H3 s3 => ?_⟩
      cases e : p xs[k] with
      | true =>
        refine iteT (he xs[k] hm e B1 H0 B3 H3 _ _ (S3.step s3) fun v B4 H4 s4 dv => ?_)
        have st := (s2.trans s3).trans s4
        have hL4 : H4 L = some (.lst acc) := st.hh.at hL
        have bL4 : B4 L = none := st.fr L hLne bL
        have hA4 := DqAll.up st.bb _ _ hA
        refine ⟨acc, hL4, ?_, B4, acc ++ [v], ?_, bL4, upd_same, ?_, ?_⟩
        · have h1 := hA.len
          have h2 : (((xs.take k).filter p).map f).length ≤ k := by
            rw [List.length_map]
            exact Nat.le_trans (List.length_filter_le _ _) (by rw [List.length_take]; omega)
          omega
        · exact (S'.step st).updFree bL4 h0L hfoot (.inr ⟨_, hL4, nt_lst⟩) nt_lst.1
        · rw [map_take_succ ed, if_pos e]
          exact hA4.app (.cons dv .nil)
        · exact (sp.trans st).updNew nL bL4 ⟨_, hL4, nt_lst⟩ nt_lst.1
      | false =>
        refine iteF ⟨B3, acc, S'.step (s2.trans s3), (s2.trans s3).fr L hLne bL, (s2.trans s3).hh.at hL, ?_, sp.trans (s2.trans s3)⟩
        rw [map_take_succ ed, e, if_neg Bool.false_ne_true, List.append_nil]
        exact DqAll.up (s2.trans s3).bb _ _ hA
    · have e : k = xs.length := by omega
      subst e
      rw [List.take_length] at hA
      exact .inl ⟨y2 (by rw [List.length_map]), q L acc B' H' (s1.trans sp) (s1.hh.free nL) bL hL hA⟩
theorem et_yes {δ : List SV} : ET K tYes δ true := fun B0 H0 B H σ Q S q => q B H (.refl S.hist.bh)
theorem en_lc1 {α : Type} {xs : List α} {g : α → D} {wi : TI} {i : Nat} {f : α → D} (hw : EI K wi δ (xs.map g)) (hl : xs.length ≤ sizeLine)
    (he : ∀ x, x ∈ xs → ED K te ((δ.set i .no).set i (.val (g x))) (f x)) : EN K (tLc wi (gName i) tYes te [i]) δ (xs.map f) := by
  have := en_lcG (p := fun _ => true) (f := f) hw hl (fun _ _ => et_yes) fun d hd _ => he d hd
  rwa [List.filter_eq_self.mpr (fun _ _ => rfl)] at this
theorem ED.of {d' : D} (h : ED K te δ d) (e : d = d') : ED K te δ d' := e ▸ h
theorem EN.of (h : EN K te δ ds) (e : ds = es) : EN K te δ es := e ▸ h
theorem ET.of {b b' : Bool} (h : ET K t δ b) (e : b = b') : ET K t δ b' := e ▸ h
theorem EI.of {wi : TI} (h : EI K wi δ ds) (e : ds = es) : EI K wi δ es := e ▸ h
/-- x is b, x is not b: bools -/
theorem ed_isB {a b : Bool} (h : ED K ta δ (.bool a)) (h' : ED K tb δ (.bool b)) : ED K (tOp rIsB ta tb) δ (.bool (decide (a = b))) := fun B0 H0 B H σ Q S q =>
  h B0 H0 B H σ _ S fun v B1 H1 s1 c => h' B0 H0 B1 H1 σ _ (S.step s1) fun w B2 H2 s2 d => by
    cases Dq.bool_inv c; cases Dq.bool_inv d
    exact ⟨a, b, rfl, rfl, q _ B2 H2 (s1.trans s2) (.bl _)⟩
theorem ed_notB {a b : Bool} (h : ED K ta δ (.bool a)) (h' : ED K tb δ (.bool b)) : ED K (tOp rNotB ta tb) δ (.bool (!decide (a = b))) := fun B0 H0 B H σ Q S q =>
  h B0 H0 B H σ _ S fun v B1 H1 s1 c => h' B0 H0 B1 H1 σ _ (S.step s1) fun w B2 H2 s2 d => by
    cases Dq.bool_inv c; cases Dq.bool_inv d
    exact ⟨a, b, rfl, rfl, q _ B2 H2 (s1.trans s2) (.bl _)⟩
/-- xs[::-1] -/
theorem en_rev (h : ED K te δ (.list ds)) : EN K (tRevL K te) δ ds.reverse := fun B0 H0 B H σ Q S q => h B0 H0 B H σ _ S fun v B1 H1 s1 a => by
  cases a with
  | lst hs hA => exact ⟨_, _, rfl, s1.bh.seq hs, fun p hp => q p _ B1 _ (s1.trans (.newOwn s1.bh hp)) (s1.hh.free hp) (s1.bh.free hp) upd_same (dqall_rev hA)⟩
end
end DX

namespace DX
open PySem L2
variable [TabEnv]

/-! ### statements -/
structure EndsD where
  nx : List SV → Prop
  rt : D → Prop
  bk : List SV → Prop := fun _ => False
  ct : List SV → Prop := fun _ => False
  rn : List D → Prop := fun _ => False
  rs : D → List SV → Prop := fun _ _ => False
structure Lift (K : PySem.W.Frag) (B0 H0 : Hp) (E : EndsD) (D : Ends) : Prop where
  nx : ∀ σ H B δ, Sd K B0 H0 B H σ δ → E.nx δ → D.nx σ H
  rt : ∀ v B H d, Hist B0 H0 B H → Dq K B v d → E.rt d → D.rt v H
  bk : ∀ σ H B δ, Sd K B0 H0 B H σ δ → E.bk δ → D.bk σ H
  ct : ∀ σ H B δ, Sd K B0 H0 B H σ δ → E.ct δ → D.ct σ H
  rn : ∀ p vs B H ds, Hist B0 H0 B H → H0 p = none → B p = none → H p = some (.lst vs) → DqAll K B vs ds → E.rn ds → D.rt (.ref p) H
  rs : ∀ v B H d σ δ, Sd K B0 H0 B H σ δ → Dq K B v d → E.rs d δ → D.rt v H
def WP (K : PySem.W.Frag) (ts : TS) (E : EndsD) (δ : List SV) : Prop := ∀ (B0 H0 B H : Hp) (σ : L2.St) (D : Ends), Lift K B0 H0 E D → Sd K B0 H0 B H σ δ → ts D σ H
/-- assignment to a target -/
def GD (K : PySem.W.Frag) (g : TG) (δ : List SV) (d : D) (δ' : List SV) : Prop := ∀ (B0 H0 B H : Hp) (σ : L2.St) (v : V) (Q : L2.St → Hp → Prop), Sd K B0 H0 B H σ δ → Dq K B v d → (∀ σ', Sd K B0 H0 B H σ' δ' → Q σ' H) → g v σ H Q
def GDs (K : PySem.W.Frag) (g : TGs) (δ : List SV) (ds : List D) (δ' : List SV) : Prop := ∀ (B0 H0 B H : Hp) (σ : L2.St) (vs : List V) (Q : L2.St → Hp → Prop), Sd K B0 H0 B H σ δ → DqAll K B vs ds → (∀ σ', Sd K B0 H0 B H σ' δ' → Q σ' H) → g vs σ H Q
section
variable {K : PySem.W.Frag} {δ δ' δ'' : List SV} {ta tb te : TE} {c : TT} {t u : TS} {d x y : D} {ds es : List D} {E : EndsD}
theorem gd_name {i : Nat} : GD K (gName i) δ d (δ.set i (.val d)) := fun B0 H0 B H σ v Q S h q => q _ (S.setVal h)
theorem gds_nil : GDs K gNil δ [] δ := fun B0 H0 B H σ vs Q S h q => by
  cases h
  exact ⟨rfl, q σ S⟩
theorem gds_cons {g : TG} {gs : TGs} (h1 : GD K g δ d δ') (h2 : GDs K gs δ' ds δ'') : GDs K (gCons g gs) δ (d :: ds) δ'' := fun B0 H0 B H σ vs Q S h q => by
  cases h with
  | cons a b => exact ⟨_, _, rfl, h1 B0 H0 B H σ _ _ S a fun σ' S' => h2 B0 H0 B H σ' _ _ S' b q⟩
theorem gd_tup {g : TGs} {n : Nat} (h : GDs K g δ ds δ') (e : ds.length = n) : GD K (gTup K n g) δ (.tuple ds) δ' := fun B0 H0 B H σ v Q S a q => by
  cases a with
  | tup hs hA => exact ⟨_, _, rfl, sqT_up S.hist.bh hs, hA.len.trans e, h B0 H0 B H σ _ Q S hA q⟩

/-- an own one's address is no other slot's own -/
theorem own_apart {B0 H0 B H : Hp} {σ : L2.St} {p : Addr} {i : Nat} {x : OD} (S : Sd K B0 H0 B H σ δ) (e : δ[i]? = some (.own x)) (a1 : σ[i]? = some (some (.ref p))) (j : Nat) (s : SV) (q : Option V) (n : i ≠ j) (e2 : δ[j]? = some s) (eq : σ[j]? = some q) : p ∉ foot s q :=
  S.apart i j _ _ _ _ n e e2 a1 eq p (List.mem_singleton.mpr rfl)
theorem wp_seq (h : WP K t { E with nx := fun δ' => WP K u E δ' } δ) : WP K (tSeq t u) E δ := fun B0 H0 B H σ D L S =>
  h B0 H0 B H σ { D with nx := u D } ⟨fun σ' H' B' δ' S' w => w B0 H0 B' H' σ' D L S', L.rt, L.bk, L.ct, L.rn, L.rs⟩ S
theorem wp_next (h : E.nx δ) : WP K tNext E δ := fun B0 H0 B H σ D L S => L.nx σ H B δ S h
theorem wp_asgG {g : TG} (h : ED K te δ d) (hg : GD K g δ d δ') (q : E.nx δ') : WP K (tAsg te g) E δ := fun B0 H0 B H σ D L S =>
  h B0 H0 B H σ _ S fun v B1 H1 s1 a => hg B0 H0 B1 H1 σ v _ (S.step s1) a fun σ' S' => L.nx σ' H1 B1 δ' S' q
theorem wp_asg {i : Nat} (h : ED K te δ d) (q : E.nx (δ.set i (.val d))) : WP K (tAsg te (gName i)) E δ := wp_asgG h gd_name q
theorem wp_asgN {i : Nat} (h : EN K te δ ds) (q : E.nx (δ.set i (.own (.l ds)))) : WP K (tAsg te (gName i)) E δ := fun B0 H0 B H σ D L S =>
  h B0 H0 B H σ _ S fun p vs B1 H1 s1 np bp hp a => by
    refine L.nx _ H1 B1 _ ((S.step s1).set (x := .own (.l ds)) (show SlotOk K B1 H1 H0 (some (.ref p)) (.own (.l ds)) from ⟨p, .lst vs, rfl, hp, bp, S.hist.hh.free np, vs, rfl, a⟩) fun z mz => by
      rw [List.mem_singleton.mp mz]
      exact new_apart S np) q
theorem wp_par {i j : Nat} {ta : TA} (h : EA K ta δ [x, y]) (q : E.nx ((δ.set i (.val x)).set j (.val y))) : WP K (tPar i j ta) E δ := fun B0 H0 B H σ D L S =>
  h B0 H0 B H σ _ S fun vs B1 H1 s1 a => by
    obtain ⟨v, w, rfl, b, c⟩ := a.two
    exact ⟨v, w, rfl, L.nx _ H1 B1 _ (((S.step s1).setVal b).setVal c) q⟩
theorem wp_ret (h : ED K te δ d) (q : E.rt d) : WP K (tRet te) E δ := fun B0 H0 B H σ D L S =>
  h B0 H0 B H σ _ S fun v B1 H1 s1 a => L.rt v B1 H1 d (s1.hist S.hist) a q
theorem wp_retN (q : E.rt .none) : WP K tRetN E δ := fun B0 H0 B H σ D L S => L.rt _ B H .none S.hist .non q
theorem wp_if {b : Bool} (h : ET K c δ b) (h1 : b = true → WP K t E δ) (h2 : b = false → WP K u E δ) : WP K (tIfS c t u) E δ := fun B0 H0 B H σ D L S =>
  h B0 H0 B H σ _ S fun B1 H1 s1 => by
    cases b with
    | true => exact iteT (h1 rfl B0 H0 B1 H1 σ D L (S.step s1))
    | false => exact iteF (h2 rfl B0 H0 B1 H1 σ D L (S.step s1))
theorem wp_drop (h : ED K te δ d) (q : E.nx δ) : WP K (tDrop te) E δ := fun B0 H0 B H σ D L S =>
  h B0 H0 B H σ _ S fun v B1 H1 s1 a => L.nx σ H1 B1 δ (S.step s1) q
theorem wp_break (q : E.bk δ) : WP K tBreak E δ := fun B0 H0 B H σ D L S => L.bk σ H B δ S q
theorem wp_cont (q : E.ct δ) : WP K tCont E δ := fun B0 H0 B H σ D L S => L.ct σ H B δ S q
/-- an owned list is known from now on -/
theorem Sd.freezeAt {B0 H0 B H : Hp} {σ : L2.St} {i : Nat} {p : Addr} {vs : List V} (S : Sd K B0 H0 B H σ δ) (e : δ[i]? = some (.own (.l ds))) (a1 : σ[i]? = some (some (.ref p))) (hp : H p = some (.lst vs)) (bp : B p = none) (h0 : H0 p = none) (dp : DqAll K B vs ds) :
    Sd K B0 H0 (upd B p (.lst vs)) H σ (δ.set i (.val (.list ds))) := by
  obtain ⟨k1, k2⟩ := Stp.know (o := .lst vs) S.hist.bh bp hp
  refine ⟨⟨S.hist.bb.trans k1, k2, S.hist.hh, fun a q z => ?_⟩, by rw [List.length_set]; exact S.len, fun j s ej => ?_, S.apart.less e fun o eo a ma => by cases ma⟩
  · have : a ≠ p := fun e => by subst e; exact q h0
    rw [upd_ne this]; exact S.hist.fr a q z
  · rcases get_set ej with ⟨rfl, rfl⟩ | ⟨hne, ej⟩
    · exact ⟨_, a1, .ref p, rfl, .lst (.inl (.inl upd_same)) (DqAll.up k1 _ _ dp)⟩
    · obtain ⟨o, eo, ok⟩ := S.ok j s ej
      refine ⟨o, eo, ?_⟩
      cases s with
      | no => exact True.intro
      | ob C fs => obtain ⟨pp, dx, ws, e1, e2, e3, e4⟩ := ok; exact ⟨pp, dx, ws, e1, e2, e3, e4.up k1⟩
      | big R F => exact big_step ok (own_apart S e a1 j _ o hne ej eo) k1 (fun a z => upd_ne z) (fun _ _ => rfl)
      | val d => obtain ⟨v, e1, e2⟩ := ok; exact ⟨v, e1, Dq.up k1 _ _ e2⟩
      | own es =>
        obtain ⟨pp, ws, e1, e2, e3, e4, e5⟩ := ok
        have hne2 : pp ≠ p := fun z => by
          subst z
          subst e1
          exact S.apartOwn i j pp (.l ds) es hne e ej a1 eo
        exact ⟨pp, ws, e1, e2, by rw [upd_ne hne2]; exact e3, e4, e5.up k1⟩
theorem Sd.freeze {B0 H0 B H : Hp} {σ : L2.St} {i : Nat} (S : Sd K B0 H0 B H σ δ) (e : δ[i]? = some (.own (.l ds))) : ∃ B', Sd K B0 H0 B' H σ (δ.set i (.val (.list ds))) ∧ Sam B B' := by
  obtain ⟨p, vs, a1, hp, bp, h0, dp⟩ := S.slotOwn e
  exact ⟨_, S.freezeAt e a1 hp bp h0 dp, (Stp.know (o := .lst vs) S.hist.bh bp hp).1⟩
theorem wp_freeze (i : Nat) (e : δ[i]? = some (.own (.l ds))) (h : WP K t E (δ.set i (.val (.list ds)))) : WP K t E δ := fun B0 H0 B H σ D L S => by
  obtain ⟨B', S', _⟩ := S.freeze e
  exact h B0 H0 B' H σ D L S'
theorem wp_retOwn {i : Nat} (e : δ[i]? = some (.own (.l ds))) (q : E.rt (.list ds)) : WP K (tRet (tVar i)) E δ :=
  wp_freeze i e (wp_ret (ed_var (by
    have hl : i < δ.length := (List.getElem?_eq_some_iff.mp e).1
    rw [List.getElem?_set_self hl])) q)
/-- xs.append(e), xs owned -/
theorem rep_ins {B : Hp} {C dx : Addr} {ws : List (Str × V)} : ∀ {x : OD}, OwnRep K B (.ins C dx ws) x → False
  | .l ds, ⟨vs, a, _⟩ => by cases a
  | .m es, ⟨vs, a, _⟩ => by cases a
theorem own_upd {B0 H0 B H : Hp} {σ : L2.St} {i : Nat} {p : Addr} {u : HO} {xo yo : OD} (S : Sd K B0 H0 B H σ δ) (e : δ[i]? = some (.own xo)) (a1 : σ[i]? = some (some (.ref p))) (bp : B p = none) (h0 : H0 p = none) (h : OwnRep K B u yo) : Sd K B0 H0 B (upd H p u) σ (δ.set i (.own yo)) := by
  have notins : ∀ C dx ws, H p ≠ some (.ins C dx ws) := fun C dx ws z => by
    obtain ⟨p', u', b1, b2, _, _, b5⟩ := S.slotObj e
    rw [a1] at b1; cases b1
    rw [z] at b2; cases b2
    exact rep_ins b5
  have hsi : i < δ.length := (List.getElem?_eq_some_iff.mp e).1
  have tbu : TabsG (upd H p u) := by
    obtain ⟨p', u', c1, c2, _, _, c5⟩ := S.slotObj e
    rw [a1] at c1; cases c1
    exact S.hist.bh.tb.upd (.inr ⟨u', c2, rep_nt c5, rep_ext c5⟩) (rep_nt h)
  refine ⟨⟨S.hist.bb, ⟨fun a o ea => ?_, tbu⟩, fun a o ea => ?_, S.hist.fr⟩, by rw [List.length_set]; exact S.len, fun j s ej => ?_, S.apart.less e fun o eo a ma => ma⟩
  · have : a ≠ p := fun z => by subst z; rw [bp] at ea; cases ea
    rw [upd_ne this]; exact S.hist.bh.sm _ _ ea
  · have : a ≠ p := fun z => by subst z; rw [h0] at ea; cases ea
    rw [upd_ne this]; exact S.hist.hh _ _ ea
  · rcases get_set ej with ⟨rfl, rfl⟩ | ⟨hne, ej⟩
    · exact ⟨_, a1, p, u, rfl, upd_same, bp, h0, h⟩
    · obtain ⟨o, eo, ok⟩ := S.ok j s ej
      refine ⟨o, eo, ?_⟩
      cases s with
      | no => exact True.intro
      | ob C fs =>
        obtain ⟨pp, dx, ws, e1, e2, e3⟩ := ok
        have hne2 : pp ≠ p := fun z => by subst z; exact notins _ _ _ e2
        exact ⟨pp, dx, ws, e1, by rw [upd_ne hne2]; exact e2, e3⟩
      | big R F => exact big_step ok (own_apart S e a1 j _ o hne ej eo) (Sam.refl _) (fun _ _ => rfl) (fun a z => upd_ne z)
      | val d => exact ok
      | own es' =>
        obtain ⟨pp, us, e1, e2, e3, e4, e5⟩ := ok
        have hne2 : pp ≠ p := fun z => by
          subst z
          subst e1
          exact S.apartOwn i j pp xo es' hne e ej a1 eo
        exact ⟨pp, us, e1, by rw [upd_ne hne2]; exact e2, e3, e4, e5⟩
theorem wp_app {i : Nat} (e : δ[i]? = some (.own (.l ds))) (h : ED K te δ d) (hl : ds.length < sizeLine) (q : E.nx (δ.set i (.own (.l (ds ++ [d]))))) : WP K (tDrop (tBM K "list" rAppend (tVar i) (tCons te tNil))) E δ := fun B0 H0 B H σ D L S => by
  obtain ⟨p, vs, a1, hp, bp, h0, dp⟩ := S.slotOwn e
  refine ⟨_, a1, .inl ⟨rfl, vs, .inl (.inl hp)⟩, h B0 H0 B H σ _ S fun v B1 H1 s1 a => ?_⟩
  have S1 := S.step s1
  obtain ⟨p', vs', a1', hp', bp', h0', dp'⟩ := S1.slotOwn e
  rw [a1] at a1'; cases a1'
  refine ⟨p, vs', v, rfl, rfl, hp', by rw [dp'.len]; exact hl, L.nx _ _ B1 _ (own_upd (yo := .l _) S1 e a1 bp' h0' ⟨_, rfl, dp'.app (.cons a .nil)⟩) q⟩
theorem ixN_at {n : Nat} {i : Int} {j : Nat} (h0 : 0 ≤ i) (h : i < n) (e : i.toNat = j) : ixN n i = some j := by
  unfold ixN
  rw [if_pos h0, if_pos h, e]
/-- xs[i] = e, xs owned -/
theorem wp_setOwn {i : Nat} {k : Int} {j : Nat} (e : δ[i]? = some (.own (.l ds))) (h : ED K te δ d) (hk : ED K tb δ (.int k)) (hj : ixN ds.length k = some j) (q : E.nx (δ.set i (.own (.l (ds.set j d))))) : WP K (tAsg te (gSub (tVar i) tb rSetL)) E δ := fun B0 H0 B H σ D L S =>
  h B0 H0 B H σ _ S fun v B1 H1 s1 a => by
    have S1 := S.step s1
    obtain ⟨p, vs, a1, hp, bp, h0, dp⟩ := S1.slotOwn e
    refine ⟨_, a1, hk B0 H0 B1 H1 σ _ S1 fun w B2 H2 s2 b => ?_⟩
    cases Dq.int_inv b
    have S2 := S1.step s2
    obtain ⟨p', vs', a1', hp', bp', h0', dp'⟩ := S2.slotOwn e
    rw [a1] at a1'; cases a1'
    exact ⟨p, vs', k, j, rfl, rfl, hp', by rw [dp'.len]; exact hj, L.nx _ _ B2 _ (own_upd (yo := .l _) S2 e a1 bp' h0' ⟨_, rfl, dp'.set (Dq.up s2.bb _ _ a) j⟩) q⟩
/-- x op= e, ints -/
theorem wp_aug {i : Nat} {f : Int → Int → Int} {a b : Int} (hx : δ[i]? = some (.val (.int a))) (h : ED K te δ (.int b)) (q : E.nx (δ.set i (.val (.int (f a b))))) : WP K (tAug i te (ipI f)) E δ := fun B0 H0 B H σ D L S => by
  obtain ⟨v, e, dv⟩ := S.slot hx
  cases Dq.int_inv dv
  refine ⟨_, e, h B0 H0 B H σ _ S fun w B1 H1 s1 c => ?_⟩
  cases Dq.int_inv c
  exact ⟨a, b, rfl, rfl, L.nx _ H1 B1 _ ((S.step s1).setVal (.int _)) q⟩
/-! ### loops -/
theorem wp_for {wi : TI} {g : TG} (I : Nat → List SV → Prop) (hw : EI K wi δ ds) (h0 : I 0 δ)
    (hs : ∀ k d δ', ds[k]? = some d → I k δ' → ∃ δ'', GD K g δ' d δ'' ∧ WP K t { E with nx := I (k + 1), ct := I (k + 1), bk := E.nx } δ'') (hd : ∀ δ', I ds.length δ' → E.nx δ') : WP K (tFor wi g t) E δ := fun B0 H0 B H σ D L S =>
  hw B0 H0 B H σ _ S fun J B1 H1 s1 yd => by
    have S1 := S.step s1
    refine ⟨fun k m σ' H' => m = ds.length - k ∧ k ≤ ds.length ∧ ∃ B' δ', Sd K B1 H0 B' H' σ' δ' ∧ I k δ', ⟨_, rfl, Nat.zero_le _, B1, δ, S1.past S1.hist.bb (Sam.refl _), h0⟩, ?_⟩
    rintro k m σ' H' ⟨rfl, hk, B', δ', S', ik⟩
    obtain ⟨y1, y2⟩ := yd B' H' k S'.hist.bb S'.hist.bh
    by_cases hlt : k < ds.length
    · obtain ⟨go, yy⟩ := y1 hlt
      refine .inr ⟨go, fun σ2 H2 => ∃ B2 δ2, Sd K B1 H0 B2 H2 σ2 δ2 ∧ I (k + 1) δ2, fun σ2 H2 ⟨B2, δ2, S2, i2⟩ => ⟨ds.length - (k + 1), by omega, rfl, hlt, B2, δ2, S2, i2⟩, fun x H2 yl => ?_⟩
      obtain ⟨B2, d, s2, ed, dp⟩ := yy x H2 yl
      obtain ⟨δ'', gd, wp⟩ := hs k d δ' ed ik
      refine gd B1 H0 B2 H2 σ' x _ (S'.step s2) dp fun σ3 S3 => wp B1 H0 B2 H2 σ3 _ ⟨fun σ4 H4 B4 δ4 S4 q => ⟨B4, δ4, S4, q⟩, fun v B4 H4 d' hh dv q => L.rt v B4 H4 d' (hh.back S1.hist) dv q, fun σ4 H4 B4 δ4 S4 q => L.nx σ4 H4 B4 δ4 (S4.back S1.hist) q, fun σ4 H4 B4 δ4 S4 q => ⟨B4, δ4, S4, q⟩, fun p vs B4 H4 ds hh n0 nb hp da q => L.rn p vs B4 H4 ds (hh.back S1.hist) n0 nb hp da q, fun v B4 H4 d' σ4 δ4 S4 dv q => L.rs v B4 H4 d' σ4 δ4 (S4.back S1.hist) dv q⟩ S3
    · have e : k = ds.length := by omega
      subst e
      exact .inl ⟨y2 rfl, L.nx σ' H' B' δ' (S'.back S1.hist) (hd δ' ik)⟩
/-- one name as target -/
theorem wp_for1 {wi : TI} {i : Nat} (I : Nat → List SV → Prop) (hw : EI K wi δ ds) (h0 : I 0 δ)
    (hs : ∀ k d δ', ds[k]? = some d → I k δ' → WP K t { E with nx := I (k + 1), ct := I (k + 1), bk := E.nx } (δ'.set i (.val d))) (hd : ∀ δ', I ds.length δ' → E.nx δ') : WP K (tFor wi (gName i) t) E δ :=
  wp_for I hw h0 (fun k d δ' e ik => ⟨_, gd_name, hs k d δ' e ik⟩) hd
theorem wp_forG {α : Type} {xs : List α} {g : α → D} {wi : TI} {i : Nat} (I : Nat → List SV → Prop) (hw : EI K wi δ (xs.map g)) (h0 : I 0 δ)
    (hs : ∀ k x δ', xs[k]? = some x → I k δ' → WP K t { E with nx := I (k + 1), ct := I (k + 1), bk := E.nx } (δ'.set i (.val (g x)))) (hd : ∀ δ', I xs.length δ' → E.nx δ') : WP K (tFor wi (gName i) t) E δ :=
  wp_for1 I hw h0 (fun k d δ' e ik => by
    rw [List.getElem?_map] at e
    cases q : xs[k]? with
    | none => rw [q] at e; cases e
    | some x => rw [q] at e; cases e; exact hs k x δ' q ik) (by rw [List.length_map]; exact hd)
theorem wp_while (I : Nat → List SV → Prop) {n : Nat} (h0 : I n δ)
    (hs : ∀ n δ', I n δ' → ∃ b, ET K c δ' b ∧ (b = true → WP K t { E with nx := fun δ2 => ∃ m, m < n ∧ I m δ2, ct := fun δ2 => ∃ m, m < n ∧ I m δ2, bk := E.nx } δ') ∧ (b = false → E.nx δ')) : WP K (tWhile c t) E δ := fun B0 H0 B H σ D L S => by
  refine ⟨fun m σ' H' => ∃ B' δ', Sd K B0 H0 B' H' σ' δ' ∧ I m δ', ⟨n, B, δ, S, h0⟩, ?_⟩
  rintro m σ' H' ⟨B', δ', S', im⟩
  obtain ⟨b, hb, h1, h2⟩ := hs m δ' im
  refine hb B0 H0 B' H' σ' _ S' fun B2 H2 s2 => ?_
  cases b with
  | true =>
    refine iteT ⟨fun σ3 H3 => ∃ m', m' < m ∧ ∃ B3 δ3, Sd K B0 H0 B3 H3 σ3 δ3 ∧ I m' δ3, fun σ3 H3 z => z, h1 rfl B0 H0 B2 H2 σ' _ ⟨?_, L.rt, L.nx, ?_, L.rn, L.rs⟩ (S'.step s2)⟩
    · rintro σ4 H4 B4 δ4 S4 ⟨m', l, q⟩
      exact ⟨m', l, B4, δ4, S4, q⟩
    · rintro σ4 H4 B4 δ4 S4 ⟨m', l, q⟩
      exact ⟨m', l, B4, δ4, S4, q⟩
  | false => exact iteF (L.nx σ' H2 B2 δ' (S'.step s2) (h2 rfl))
end
/-! ### a def -/
def startD (N : List Str) (ds : List D) : List SV := ds.map .val ++ List.replicate (N.length - ds.length) .no
section
variable {P : Program} {w : World} {K : PySem.W.Frag} {mg : Str → Option Value} {base : Heap}
theorem start_sd {N : List Str} {vs : List V} {ds : List D} {B H : Hp} (bh : Bh B H) (h : DqAll K B vs ds) : Sd K B H B H (L2.start N vs) (startD N ds) := by
  have hl := h.len
  refine ⟨⟨Sam.refl _, bh, Sam.refl _, fun _ _ z => z⟩, ?_, fun i s e => ?_, fun i j s t o q n e1 e2 e3 e4 a ma => ?_⟩
  · unfold L2.start startD
    rw [List.length_append, List.length_append, List.length_map, List.length_map, List.length_replicate, List.length_replicate, hl]
  · unfold startD at e
    unfold L2.start
    by_cases hi : i < ds.length
    · rw [List.getElem?_append_left (by rw [List.length_map]; exact hi), List.getElem?_map, List.getElem?_eq_getElem hi] at e
      cases e
      obtain ⟨v, a, b⟩ := h.get (List.getElem?_eq_getElem hi)
      rw [List.getElem?_append_left (by rw [List.length_map, hl]; exact hi), List.getElem?_map, a]
      exact ⟨_, rfl, v, rfl, b⟩
    · rw [List.getElem?_append_right (by rw [List.length_map]; omega), List.length_map] at e
      rw [List.getElem?_append_right (by rw [List.length_map, hl]; omega), List.length_map, hl]
      rw [List.getElem?_replicate] at e ⊢
      by_cases hz : i - ds.length < N.length - ds.length
      · rw [if_pos hz] at e ⊢
        cases e
        exact ⟨_, rfl, True.intro⟩
      · rw [if_neg hz] at e; cases e
  · unfold startD at e1
    by_cases hi : i < ds.length
    · rw [List.getElem?_append_left (by rw [List.length_map]; exact hi), List.getElem?_map, List.getElem?_eq_getElem hi] at e1
      cases e1; cases ma
    · rw [List.getElem?_append_right (by rw [List.length_map]; omega), List.length_map, List.getElem?_replicate] at e1
      by_cases hz : i - ds.length < N.length - ds.length
      · rw [if_pos hz] at e1; cases e1; cases ma
      · rw [if_neg hz] at e1; cases e1
/-- a def by its body, its code object told -/
theorem _root_.L2.Fun.okC {x qual : Str} {st : Stmt} {f : Addr} {fd : FuncData} {N ps : List Str} {k : Nat} {sp : Sp} (F : Fun K x qual st f fd) (S : FnScope N ps (defScope st)) (len : ∀ vs H Q E, sp vs H Q E → vs.length = ps.length)
    (go : ∀ (cdv : Value), fd.code = cdv → ∀ (A : Around) (outer : List Env) (s : Shared) (H : Hp) (vs : List V) (Q : VK) (E : XK), Room k (A.deeper (PyProof.Rows.envOfC qual (defScope st) s.heap.objs.size f cdv)) → sp vs H Q E →
      ∃ t, PSs (cxOf CX0 P w K mg base N qual (defScope st) f cdv A outer s H E).nox (defBody st) t ∧ t { nx := fun _ H' => Q .non H', rt := Q } (L2.start N vs) H) : FnOk P w K mg base CX0 (k + 1) f fd ps sp := by
  obtain ⟨oc, od, kV, doc, pm, an, cdv, ct, osl, ef, lk, hcd⟩ := F.ex
  have hcv : fd.code = cdv := by rw [ef] <;> rfl
  subst ef
  exact fn_of lk hcd S len fun A outer s H vs Q E hr hsp => (go cdv hcv A outer s H vs Q E hr hsp).imp fun t h => ⟨h.1.nox, h.2⟩
theorem ok_wp {x qual : Str} {st : Stmt} {f : Addr} {fd : FuncData} {N ps : List Str} {k : Nat} {R : List D → D → Prop} (F : Fun K x qual st f fd) (S : FnScope N ps (defScope st)) (len : ∀ ds d, R ds d → ds.length = ps.length)
    (hb : ∀ (cdv : Value), fd.code = cdv → ∀ (A : Around) (outer : List Env) (s : Shared) (H : Hp) (E : XK), Room k (A.deeper (PyProof.Rows.envOfC qual (defScope st) s.heap.objs.size f cdv)) →
      ∃ t, PSs (cxOf CX0 P w K mg base N qual (defScope st) f cdv A outer s H E).nox (defBody st) t ∧ ∀ ds d, R ds d → WP K t { nx := fun _ => PyData.none = d, rt := fun d' => d' = d } (startD N ds)) : FnOk P w K mg base CX0 (k + 1) f fd ps (spD K R) := by
  refine F.okC S (fun vs H Q E h => ?_) (fun cdv hcv A outer s H vs Q E hr h => ?_)
  · obtain ⟨B, ds, d, r, bh, a, _⟩ := h
    rw [a.len]; exact len ds d r
  · obtain ⟨t, ht, q⟩ := hb cdv hcv A outer s H E hr
    refine ⟨t, ht, ?_⟩
    obtain ⟨B, ds, d, r, bh, a, hq⟩ := h
    refine q ds d r B H B H _ _ ⟨fun σ' H' B' δ' S' e => ?_, fun v B' H' d' hh dv e => ?_, fun _ _ _ _ _ z => z.elim, fun _ _ _ _ _ z => z.elim, fun _ _ _ _ _ _ _ _ _ _ z => z.elim, fun _ _ _ _ _ _ _ _ z => z.elim⟩ (start_sd bh a)
    · subst e
      exact hq _ B' H' ⟨S'.hist.bb, S'.hist.bh, S'.hist.hh, S'.hist.fr⟩ .non
    · subst e
      exact hq v B' H' ⟨hh.bb, hh.bh, hh.hh, hh.fr⟩ dv
end
end DX

namespace DX
open PySem L2
variable [TabEnv]

/-! ### rules with the written part named -/
section
variable {X : Cx} {K : PySem.W.Frag} {tg l e : Expr} {tl te : TE} {pos : Pos}
theorem kx_ix (hK : X.K = K := by rfl) : IxR X (rIx K) := by subst hK; exact ix_seq
theorem kx_sl (hK : X.K = K := by rfl) : SlR X (rSlL K) := by subst hK; exact sl_list
theorem kx_len (hK : X.K = K := by rfl) : CallR X (.builtin "len") (rLenQ K) := by subst hK; exact cr_lenQ
theorem kx_list (hK : X.K = K := by rfl) : CallR X (.type "list") (rListQ K) := by subst hK; exact cr_listQ
theorem kx_tuple (hK : X.K = K := by rfl) : CallR X (.type "tuple") (rTupleQ K) := by subst hK; exact cr_tupleQ
theorem kx_isi (hK : X.K = K := by rfl) : CallR X (.builtin "isinstance") (rIsi K) := by subst hK; exact call_isi
theorem kx_sum (hK : X.K = K := by rfl) (hc : X.calm = true := by rfl) : CallR X (.builtin "sum") (rSum K) := by subst hK; exact cr_sum hc
theorem kx_all (hK : X.K = K := by rfl) (hc : X.calm = true := by rfl) : CallR X (.builtin "all") (rAll K) := by subst hK; exact cr_all hc
theorem kx_any (hK : X.K = K := by rfl) (hc : X.calm = true := by rfl) : CallR X (.builtin "any") (rAny K) := by subst hK; exact cr_any hc
theorem kx_eq (hu : X.A.units + 64 < cLine) (hK : X.K = K := by rfl) : OpR X (compareOp .Eq) (rEqD K) := by subst hK; exact op_eqD hu
theorem kx_ne (hu : X.A.units + 64 < cLine) (hK : X.K = K := by rfl) : OpR X (compareOp .NotEq) (rNeD K) := by subst hK; exact op_neD hu
theorem kpi_list (hl : PE X l tl) (hK : X.K = K := by rfl) : PI X tg l (iList K tl) := by subst hK; exact pi_list hl
theorem kpi_tup (hl : PE X l tl) (hK : X.K = K := by rfl) : PI X tg l (iTup K tl) := by subst hK; exact pi_tup hl
theorem kpg_tup {es : List Expr} {k : Nat} {t : TGs} {n : Nat} (hc : X.calm = true) (h : PGs X es t) (hK : X.K = K := by rfl)
    (hn : (assignEach es X.env).length = n := by rfl) (hst : (assignEach es X.env).findIdx? (·.1) = none := by rfl) : PG X (.Tuple es k pos) (gTup K n t) := by subst hK; exact pg_tup hc h hn hst
theorem kpe_rev {k : Nat} {p1 p2 p3 : Pos} (he : PE X e te) (hK : X.K = K := by rfl) : PE X (.Subscript e (.Slice none none (some (.UnaryOp .USub (.Constant (.int 1) k p1) p2)) p3) pos) (tRevL K te) := by subst hK; exact pe_revL he
end
/-! ### data that may be compared -/
def Shp (n : Nat) (d : D) : Prop := d.canLay0 = true ∧ d.depth ≤ n
theorem Shp.shaped {n : Nat} {d : D} (h : Shp n d) (hn : n ≤ 64 := by decide) : SeqAt.shaped d = true := by
  unfold SeqAt.shaped
  rw [h.1, Bool.true_and]
  exact decide_eq_true (Nat.le_trans h.2 hn)
theorem shp_int {n : Nat} {i : Int} : Shp n (.int i) := by
  refine ⟨by simp only [PyData.canLay0], ?_⟩
  simp only [PyData.depth]; omega
theorem shp_bool {n : Nat} {b : Bool} : Shp n (.bool b) := by
  refine ⟨by simp only [PyData.canLay0], ?_⟩
  simp only [PyData.depth]; omega
theorem shp_none {n : Nat} : Shp n .none := by
  refine ⟨by simp only [PyData.canLay0], ?_⟩
  simp only [PyData.depth]; omega
theorem shp_all {n : Nat} : ∀ {ds : List D}, (∀ d ∈ ds, Shp n d) → PyData.canLayAll0 ds = true ∧ PyData.depthAll ds ≤ n
  | [], _ => ⟨by simp only [PyData.canLayAll0], by simp only [PyData.depthAll]; omega⟩
  | d :: ds, h => by
    obtain ⟨a, b⟩ := h d (List.mem_cons_self ..)
    obtain ⟨c, e⟩ := shp_all (ds := ds) fun x hx => h x (List.mem_cons_of_mem _ hx)
    refine ⟨?_, ?_⟩
    · simp only [PyData.canLayAll0, a, c, Bool.and_self]
    · simp only [PyData.depthAll]; omega
theorem shp_list {n : Nat} {ds : List D} (h : ∀ d ∈ ds, Shp n d) : Shp (n + 1) (.list ds) := by
  obtain ⟨a, b⟩ := shp_all h
  refine ⟨by simp only [PyData.canLay0, a], ?_⟩
  simp only [PyData.depth]; omega
theorem shp_tup {n : Nat} {ds : List D} (h : ∀ d ∈ ds, Shp n d) : Shp (n + 1) (.tuple ds) := by
  obtain ⟨a, b⟩ := shp_all h
  refine ⟨by simp only [PyData.canLay0, a], ?_⟩
  simp only [PyData.depth]; omega
theorem shp_map {α : Type} {n : Nat} {xs : List α} {g : α → D} (h : ∀ x, Shp n (g x)) : ∀ d ∈ xs.map g, Shp n d := fun d hd => by
  obtain ⟨x, _, rfl⟩ := List.mem_map.mp hd
  exact h x
theorem shp_ints {n : Nat} {ns : List Int} : Shp (n + 1) (.list (ns.map PyData.int)) := shp_list (shp_map fun _ => shp_int)
theorem shp_tints {n : Nat} {ns : List Int} : Shp (n + 1) (.tuple (ns.map PyData.int)) := shp_tup (shp_map fun _ => shp_int)
theorem eqv_self {n : Nat} {d : D} (h : Shp n d) : PyData.eqv d d = true := PySem.SeqAt.eqv_refl d h.1

section
variable {K : PySem.W.Frag} {δ δ' δ'' : List SV} {ta tb te : TE} {c : TT} {t u : TS} {d x y : D} {ds es : List D} {E : EndsD}
theorem wp_cut (C : List SV → Prop) (h : WP K t { E with nx := C } δ) (q : ∀ δ', C δ' → E.nx δ') : WP K t E δ := fun B0 H0 B H σ D L S =>
  h B0 H0 B H σ D ⟨fun σ' H' B' δ' S' z => L.nx σ' H' B' δ' S' (q δ' z), L.rt, L.bk, L.ct, L.rn, L.rs⟩ S
theorem ei_rngN {n : Nat} {i : Int} (h : ED K te δ (.int i)) (e : i = (n : Int)) (hn : n ≤ 1000000) : EI K (iRng1 (tCons te tNil)) δ ((List.range n).map fun k => PyData.int (k : Nat)) := by
  subst e
  refine EI.of (ei_rng1 h (by omega)) ?_
  unfold rngD
  rw [Int.toNat_natCast]
  congr 1
  funext k
  rw [Int.zero_add]
/-! ### expressions that give some datum -/
def EP (K : PySem.W.Frag) (te : TE) (δ : List SV) (P : D → Prop) : Prop := ∀ (B0 H0 B H : Hp) (σ : L2.St) (Q : VK), Sd K B0 H0 B H σ δ → (∀ v B' H' d, Stp B H B' H' → Dq K B' v d → P d → Q v H') → te σ H Q
theorem ED.ep (h : ED K te δ d) : EP K te δ (fun x => x = d) := fun B0 H0 B H σ Q S q => h B0 H0 B H σ Q S fun v B' H' s a => q v B' H' d s a rfl
def spP (K : PySem.W.Frag) (Pre : List D → Prop) (Post : List D → D → Prop) : Sp := fun vs H Q _ => ∃ B ds, Pre ds ∧ Bh B H ∧ DqAll K B vs ds ∧ ∀ v B' H' d, Stp B H B' H' → Dq K B' v d → Post ds d → Q v H'
theorem ep_call {ta : TA} {Pre : List D → Prop} {Post : List D → D → Prop} {X : XK} (h : EA K ta δ ds) (r : Pre ds) : EP K (tCall (spP K Pre Post) [] X ta) δ (Post ds) := fun B0 H0 B H σ Q S q =>
  h B0 H0 B H σ _ S fun vs B1 H1 s1 a => ⟨B1, ds, r, s1.bh, by rw [List.append_nil]; exact a, fun v B' H' d s2 b p => q v B' H' d (s1.trans s2) b p⟩
theorem wp_asgP {i : Nat} {P : D → Prop} (h : EP K te δ P) (q : ∀ d, P d → E.nx (δ.set i (.val d))) : WP K (tAsg te (gName i)) E δ := fun B0 H0 B H σ D L S =>
  h B0 H0 B H σ _ S fun v B1 H1 d s1 a p => L.nx _ H1 B1 _ ((S.step s1).setVal a) (q d p)
theorem wp_retP {P : D → Prop} (h : EP K te δ P) (q : ∀ d, P d → E.rt d) : WP K (tRet te) E δ := fun B0 H0 B H σ D L S =>
  h B0 H0 B H σ _ S fun v B1 H1 d s1 a p => L.rt v B1 H1 d (s1.hist S.hist) a (q d p)
end

theorem cx_K {CX : CXT} {P : Program} {w : World} {K : PySem.W.Frag} {mg : Str → Option Value} {base : Heap} {N : List Str} {q : Str} {sc : Scope} {f : Addr} {cd : Value} {A : Around} {outer : List Env} {s : Shared} {H : Hp} {E : XK} :
    (cxOf CX P w K mg base N q sc f cd A outer s H E).K = K := rfl
theorem nox_K {X : Cx} : X.nox.K = X.K := rfl
theorem blk_K {X : Cx} {s : Shared} {H : Hp} {sc : Scope} {e : Env} {fp : List Addr} : (X.blk s H sc e fp).K = X.K := rfl
/-! ### sizes -/
def Lt (k : Nat) (n : Int) : Prop := n.natAbs < 2 ^ k
theorem Lt.mono {a b : Nat} {n : Int} (h : Lt a n) (e : a ≤ b := by decide) : Lt b n := Nat.lt_of_lt_of_le h (Nat.pow_le_pow_right (by decide) e)
theorem Lt.mul {a b : Nat} {i j : Int} (h : Lt a i) (h' : Lt b j) : Lt (a + b) (i * j) := wide_lt h h'
theorem Lt.add {k : Nat} {i j : Int} (h : Lt k i) (h' : Lt k j) : Lt (k + 1) (i + j) := by
  unfold Lt at *
  rw [Nat.pow_succ]
  omega
theorem Lt.sub {k : Nat} {i j : Int} (h : Lt k i) (h' : Lt k j) : Lt (k + 1) (i - j) := by
  unfold Lt at *
  rw [Nat.pow_succ]
  omega
theorem Lt.neg {k : Nat} {i : Int} (h : Lt k i) : Lt k (-i) := by
  unfold Lt at *
  omega
theorem Lt.le {k : Nat} {i j : Int} (h : Lt k j) (e : i.natAbs ≤ j.natAbs) : Lt k i := Nat.lt_of_le_of_lt e h
theorem mulX {i j : Int} {a b : Nat} (h : Lt a i) (h' : Lt b j) (ha : 0 < a := by decide) (hb : 0 < b := by decide) (hl : a + b ≤ 1000000 := by decide) : CMulX i j := .inr (wide_mul h h' ha hb hl)
theorem mulL {i j : Int} (h : -(2 ^ 64) < i ∧ i < 2 ^ 64) : CMulX i j := .inl (.inl h)
theorem mulR {i j : Int} (h : -(2 ^ 64) < j ∧ j < 2 ^ 64) : CMulX i j := .inl (.inr h)
theorem divX {i j : Int} {k : Nat} (h : j ≠ 0) (hl : Lt k j) (hk : k ≤ 9000 := by decide) (h0 : 0 < k := by decide) : CDivX i j := ⟨h, Nat.lt_of_lt_of_le (PySem.Flt.log2_lt_of h0 hl) hk⟩
theorem powX {i j : Int} (h : 0 ≤ j ∧ j ≤ 1000000 ∧ i.natAbs < 2 ^ 64) : CPow i j := h
theorem gcd_pos {n m : Int} (h : m ≠ 0) : 0 < Nat.gcd n.natAbs m.natAbs := Nat.gcd_pos_of_pos_right _ (Int.natAbs_pos.mpr h)
theorem gcd_le {n m : Int} (h : m ≠ 0) : Nat.gcd n.natAbs m.natAbs ≤ m.natAbs := Nat.gcd_le_right _ (Int.natAbs_pos.mpr h)

/-! ### numbers -/
def numV (p : Int × Int) : D := .tuple [.int p.1, .int p.2]
theorem shp_num {n : Nat} {p : Int × Int} : Shp (n + 1) (numV p) := shp_tup fun d hd => by
  rcases List.mem_cons.mp hd with rfl | hd
  · exact shp_int
  · rcases List.mem_cons.mp hd with rfl | hd
    · exact shp_int
    · cases hd
/-- the divisor by which n / m is brought to lowest terms, m's sign with it -/
def dvs (n m : Int) : Int := if m < 0 then -(Nat.gcd n.natAbs m.natAbs : Nat) else (Nat.gcd n.natAbs m.natAbs : Nat)
def nrm (n m : Int) : Int × Int := (n.fdiv (dvs n m), m.fdiv (dvs n m))
theorem dvs_abs (n m : Int) : (dvs n m).natAbs = Nat.gcd n.natAbs m.natAbs := by
  unfold dvs
  split <;> omega
theorem dvs_ne {n m : Int} (h : m ≠ 0) : dvs n m ≠ 0 := by
  have := gcd_pos (n := n) h
  have e := dvs_abs n m
  omega
theorem dvs_dvdl (n m : Int) : dvs n m ∣ n := by
  rw [← Int.natAbs_dvd_natAbs, dvs_abs]
  exact Nat.gcd_dvd_left _ _
theorem dvs_dvdr (n m : Int) : dvs n m ∣ m := by
  rw [← Int.natAbs_dvd_natAbs, dvs_abs]
  exact Nat.gcd_dvd_right _ _
theorem fdiv_of_dvd {a b : Int} (h : b ∣ a) : a.fdiv b * b = a := Int.fdiv_mul_cancel h
theorem nrm_mul1 (n m : Int) : (nrm n m).1 * dvs n m = n := fdiv_of_dvd (dvs_dvdl n m)
theorem nrm_mul2 (n m : Int) : (nrm n m).2 * dvs n m = m := fdiv_of_dvd (dvs_dvdr n m)
theorem nrm_pos {n m : Int} (h : m ≠ 0) : 0 < (nrm n m).2 := by
  have e := nrm_mul2 n m
  have hd := dvs_ne (n := n) h
  by_cases hm : m < 0
  · have hd2 : dvs n m < 0 := by
      unfold dvs at hd ⊢
      rw [if_pos hm] at hd ⊢
      omega
    by_cases hz : 0 < (nrm n m).2
    · exact hz
    · have := Int.mul_nonneg_of_nonpos_of_nonpos (a := (nrm n m).2) (b := dvs n m) (by omega) (by omega)
      omega
  · have hd2 : 0 < dvs n m := by
      unfold dvs at hd ⊢
      rw [if_neg hm] at hd ⊢
      omega
    have hm2 : 0 < m := by omega
    exact Int.pos_of_mul_pos_left (by rw [e]; exact hm2) hd2
end DX

namespace DX
open PySem L2
variable [TabEnv]
def rIsNQ : R2 := fun x y H Q => y = .non ∧ Q (.bl (decide (x = .non))) H
def rNotNQ : R2 := fun x y H Q => y = .non ∧ Q (.bl (!decide (x = .non))) H
def rLenDQ : List V → Hp → VK → Prop := fun xs H Q => ∃ a kvs, xs = [V.ref a] ∧ Rd H a (.dK kvs) ∧ Q (.int kvs.length) H
def tTruQ (K : PySem.W.Frag) (ta : TE) : TT := fun σ H Q => ta σ H fun x H' => ∃ k, TruV K x H' k ∧ Q k H'
section
variable {X : Cx} {K : PySem.W.Frag}
theorem op_isNQ : OpR X (compareOp .Is) rIsNQ := op_isN
theorem op_notNQ : OpR X (compareOp .IsNot) rNotNQ := op_notN
theorem cr_lenDQ : CallR X (.builtin "len") rLenDQ := by
  intro pins s σ H xs us Q I r h
  obtain ⟨a, kvs, rfl, ha, q⟩ := h
  obtain ⟨u, rfl, ru⟩ := vals1 r
  cases ru
  exact d_len I ha fun t s' I' => ⟨.int kvs.length, H, I', ⟨t, rfl⟩, q⟩
theorem kpt_truth {a : Expr} {ta : TE} (ha : PE X a ta) (he : ∀ whole, isTrue a X.env whole = (do let v ← whole; standAt a.pos; holding [v] (truthy v))) (hK : X.K = K := by rfl) : PT X a (tTruQ K ta) := by subst hK; exact pt_truth ha he
theorem kpi_zip {e e2 : Expr} {ta : TA} {p pos tpos : Pos} {elts : List Expr} {kk : Nat} (hg : Gl X "zip") (hm : X.mg "zip" = none) (ha : PA X [e, e2] ta) (hK : X.K = K := by rfl)
    (hs : starEach [e, e2] X.env = (false, eval e X.env) :: starEach [e2] X.env := by rfl) (hpl : (backTo pos (starEach [e2] X.env)).any (·.1) = false := by rfl) : PI X (.Tuple elts kk tpos) (.Call (.Name "zip" p) [e, e2] [] pos) (iZip K ta) := by subst hK; exact pi_zip hg hm ha hs hpl
theorem kpi_enum {e : Expr} {ta : TA} {p pos tpos : Pos} {elts : List Expr} {kk : Nat} (hg : Gl X "enumerate") (hm : X.mg "enumerate" = none) (ha : PA X [e] ta) (hK : X.K = K := by rfl) (hs : starEach [e] X.env = [(false, eval e X.env)] := by rfl) :
    PI X (.Tuple elts kk tpos) (.Call (.Name "enumerate" p) [e] [] pos) (iEnum K ta) := by subst hK; exact pi_enum hg hm ha hs
end
section
variable {K : PySem.W.Frag} {δ δ' : List SV} {ta tb te : TE} {c : TT} {t u : TS} {d x y : D} {ds es : List D} {E : EndsD}
def isNone : D → Bool
  | .none => true
  | _ => false
theorem dq_none {H : Hp} {v : V} (h : Dq K H v d) : decide (v = .non) = isNone d := by
  cases h with
  | non => rfl
  | _ => exact decide_eq_false fun z => nomatch z
theorem ed_isN (h : ED K ta δ d) : ED K (tOp rIsNQ ta (tC .non)) δ (.bool (isNone d)) := fun B0 H0 B H σ Q S q =>
  h B0 H0 B H σ _ S fun v B1 H1 s1 a => ⟨rfl, by rw [dq_none a]; exact q _ B1 H1 s1 (.bl _)⟩
theorem ed_notN (h : ED K ta δ d) : ED K (tOp rNotNQ ta (tC .non)) δ (.bool (!isNone d)) := fun B0 H0 B H σ Q S q =>
  h B0 H0 B H σ _ S fun v B1 H1 s1 a => ⟨rfl, by rw [dq_none a]; exact q _ B1 H1 s1 (.bl _)⟩
/-- truth -/
def truD : D → Option Bool
  | .none => some false
  | .bool b => some b
  | .int i => some (i != 0)
  | .list ds => some (!ds.isEmpty)
  | .tuple ds => some (!ds.isEmpty)
  | _ => none
theorem emp_len {α β : Type} {xs : List α} {ys : List β} (h : xs.length = ys.length) : xs.isEmpty = ys.isEmpty := by
  cases xs <;> cases ys <;> first | rfl | (simp at h)
theorem et_truth {b : Bool} (h : ED K te δ d) (e : truD d = some b) : ET K (tTruQ K te) δ b := fun B0 H0 B H σ Q S q =>
  h B0 H0 B H σ _ S fun v B1 H1 s1 a => by
    refine ⟨b, ?_, q B1 H1 s1⟩
    cases a with
    | non => cases e; rfl
    | bl c => cases e; rfl
    | int i => cases e; rfl
    | str z => cases e
    | lst hs hA =>
      cases e
      exact .inl ⟨_, s1.bh.seq hs, by rw [emp_len hA.len]⟩
    | tup hs hA =>
      cases e
      exact .inr (.inl ⟨_, sqT_up s1.bh hs, by rw [emp_len hA.len]⟩)
    | dct hs hA => cases e
/-- len of a dict -/
theorem ed_lenD {kvs : List (D × D)} (h : ED K te δ (.dict kvs)) : ED K (tCB rLenDQ (tCons te tNil)) δ (.int kvs.length) :=
  ed_cb (ea_cons h ea_nil) fun B H vs Q bh a q => by
    obtain ⟨v, rfl, b⟩ := a.one
    cases b with
    | dct hs hA => exact ⟨_, _, rfl, rd_up bh hs, q _ B H (.refl bh) (by rw [hA.len]; exact .int _)⟩
/-- a range's item, two lists at once, the items with their places -/
theorem stp_tup {B H : Hp} {T : Addr} {vs : List V} (bh : Bh B H) (n : H T = none) : Stp B H (upd B T (.tup vs)) (upd H T (.tup vs)) := .new bh n
def zipD (ds es : List D) : List D := (ds.zip es).map fun p => .tuple [p.1, p.2]
theorem ei_zip (h : ED K ta δ (.list ds)) (h' : ED K tb δ (.list es)) : EI K (iZip K (tCons ta (tCons tb tNil))) δ (zipD ds es) := fun B0 H0 B H σ R S q =>
  h B0 H0 B H σ _ S fun v B1 H1 s1 a => h' B0 H0 B1 H1 σ _ (S.step s1) fun w B2 H2 s2 b => by
    cases a with
    | lst hs hA =>
      cases b with
      | lst ks kA =>
        have hA2 := DqAll.up s2.bb _ _ hA
        have hs2 := s2.bb.seq hs
        refine ⟨_, _, _, _, rfl, s2.bh.seq hs2, s2.bh.seq ks, q _ B2 H2 (s1.trans s2) fun B H i e1 e2 => ⟨fun hi => ?_, fun hi => ?_⟩⟩
        · have hl : i < (ds.zip es).length := by
            unfold zipD at hi
            rwa [List.length_map] at hi
          rw [List.length_zip] at hl
          obtain ⟨x, g1, g2⟩ := hA2.get (List.getElem?_eq_getElem (show i < ds.length by omega))
          obtain ⟨y, k1, k2⟩ := kA.get (List.getElem?_eq_getElem (show i < es.length by omega))
          refine ⟨⟨_, _, x, y, (e1.trans e2).seq hs2, (e1.trans e2).seq ks, g1, k1⟩, fun z H' yl => ?_⟩
          obtain ⟨T, x', y', rfl, nT, rfl, f1, f2⟩ := yl
          have ex := (f1 _ ((e1.trans e2).seq hs2)).symm.trans g1
          have ey := (f2 _ ((e1.trans e2).seq ks)).symm.trans k1
          cases ex; cases ey
          have sn := same_new (o := .tup [x, y]) (e2.free nT)
          refine ⟨upd B T (.tup [x, y]), _, .new e2 nT, ?_, .tup (.inl (.inl upd_same)) (.cons (Dq.up (e1.trans sn) _ _ g2) (.cons (Dq.up (e1.trans sn) _ _ k2) .nil))⟩
          unfold zipD
          have h1 : i < ds.length := by omega
          have h2 : i < es.length := by omega
          have hz : (ds.zip es)[i]? = some (ds[i], es[i]) := by
            rw [List.getElem?_zip_eq_some]
            exact ⟨List.getElem?_eq_getElem h1, List.getElem?_eq_getElem h2⟩
          rw [List.getElem?_map, hz]
          rfl
        · refine ⟨_, _, (e1.trans e2).seq hs2, (e1.trans e2).seq ks, ?_⟩
          unfold zipD at hi
          rw [List.length_map, List.length_zip] at hi
          rw [hA2.len, kA.len]
          omega
def enumD (ds : List D) : List D := (List.range ds.length).map fun i => .tuple [.int (i : Nat), ds.getD i .none]
theorem ei_enum (h : ED K ta δ (.list ds)) : EI K (iEnum K (tCons ta tNil)) δ (enumD ds) := fun B0 H0 B H σ R S q =>
  h B0 H0 B H σ _ S fun v B1 H1 s1 a => by
    cases a with
    | lst hs hA =>
      refine ⟨_, _, rfl, s1.bh.seq hs, q _ B1 H1 s1 fun B H i e1 e2 => ⟨fun hi => ?_, fun hi => ?_⟩⟩
      · have hl : i < ds.length := by
          unfold enumD at hi
          rwa [List.length_map, List.length_range] at hi
        obtain ⟨x, g1, g2⟩ := hA.get (List.getElem?_eq_getElem hl)
        refine ⟨⟨_, x, (e1.trans e2).seq hs, g1⟩, fun z H' yl => ?_⟩
        obtain ⟨T, x', rfl, nT, rfl, f1⟩ := yl
        have ex := (f1 _ ((e1.trans e2).seq hs)).symm.trans g1
        cases ex
        have sn := same_new (o := .tup [.int (i : Nat), x]) (e2.free nT)
        refine ⟨upd B T (.tup [.int (i : Nat), x]), _, .new e2 nT, ?_, .tup (.inl (.inl upd_same)) (.cons (.int _) (.cons (Dq.up (e1.trans sn) _ _ g2) .nil))⟩
        unfold enumD
        rw [List.getElem?_map, List.getElem?_range hl]
        show some (PyData.tuple [.int (i : Nat), ds.getD i .none]) = _
        rw [List.getD_eq_getElem?_getD, List.getElem?_eq_getElem hl]
        rfl
      · refine ⟨_, (e1.trans e2).seq hs, ?_⟩
        unfold enumD at hi
        rw [List.length_map, List.length_range] at hi
        rw [hA.len]; omega
theorem tyes_true {σ : L2.St} {H : Hp} {Q : Bool → Hp → Prop} (h : Q true H) : tYes σ H Q := h
/-- a comprehension with a pair of names -/
theorem en_lc2 {α : Type} {xs : List α} {g1 g2 : α → D} {wi : TI} {i j : Nat} {f : α → D} (hij : i ≠ j) (hw : EI K wi δ (xs.map fun x => .tuple [g1 x, g2 x])) (hl : xs.length ≤ sizeLine)
    (he : ∀ x, x ∈ xs → ED K te ((((δ.set j .no).set i .no).set i (.val (g1 x))).set j (.val (g2 x))) (f x)) : EN K (tLc wi (gTup K 2 (gCons (gName i) (gCons (gName j) gNil))) tYes te [i, j]) δ (xs.map f) := fun B0 H0 B H σ Q S q =>
  hw B0 H0 B H σ _ S fun J B1 H1 s1 yd L nL => by
    have S1 := S.step s1
    have hfoot := new_foot (S := S1) nL
    have h0L := S1.hist.hh.free nL
    refine ⟨fun k m H' => m = xs.length - k ∧ k ≤ xs.length ∧ ∃ B' acc, Sd K B1 H0 B' H' σ δ ∧ B' L = none ∧ H' L = some (.lst acc) ∧ DqAll K B' acc ((xs.take k).map f) ∧ Stp B1 H1 B' H', ⟨_, rfl, Nat.zero_le _, B1, [], ?_, s1.bh.free nL, upd_same, ?_, .newOwn s1.bh nL⟩, ?_⟩
    · exact (S1.past S1.hist.bb (Sam.refl _)).step (.newOwn s1.bh nL)
    · rw [List.take_zero]; exact .nil
    rintro k m H' ⟨rfl, hk, B', acc, S', bL, hL, hA, sp⟩
    obtain ⟨y1, y2⟩ := yd B' H' k S'.hist.bb S'.hist.bh
    by_cases hlt : k < xs.length
    · obtain ⟨go, yy⟩ := y1 (by rw [List.length_map]; exact hlt)
      refine .inr ⟨go, fun H'' => ∃ B'' acc, Sd K B1 H0 B'' H'' σ δ ∧ B'' L = none ∧ H'' L = some (.lst acc) ∧ DqAll K B'' acc ((xs.take (k + 1)).map f) ∧ Stp B1 H1 B'' H'', fun H'' z => ⟨xs.length - (k + 1), by omega, rfl, hlt, z⟩, fun x H2 yl => ?_⟩
      obtain ⟨B2, d', s2, ed', dp⟩ := yy x H2 yl
      have ed : xs[k]? = some xs[k] := List.getElem?_eq_getElem hlt
      have eg : d' = .tuple [g1 xs[k], g2 xs[k]] := by
        rw [List.getElem?_map, ed] at ed'
        exact (Option.some.inj ed').symm
      subst eg
      have hm : xs[k] ∈ xs := List.getElem_mem hlt
      have hLne : H' L ≠ none := by rw [hL]; exact fun z => nomatch z
      have S2 := S'.step s2
      cases dp with
      | tup hs hA2 =>
        obtain ⟨v1, v2, rfl, a1, a2⟩ := hA2.two
        have S3 : Sd K B1 H0 B2 H2 ((((σ.set j none).set i none).set i (some v1)).set j (some v2)) ((((δ.set j .no).set i .no).set i (.val (g1 xs[k]))).set j (.val (g2 xs[k]))) := (((S2.forget (i := j) (o := none)).forget (i := i) (o := none)).setVal a1).setVal a2
        refine ⟨_, _, rfl, sqT_up s2.bh hs, rfl, v1, [v2], rfl, v2, [], rfl, rfl, ?_, ?_⟩
        · show ((((((σ.set j none).set i none).set i (some v1)).set j (some v2)).set j none).set i none) = (σ.set j none).set i none
          rw [List.set_set, List.set_set, List.set_comm _ _ hij, List.set_set, List.set_set]
        refine tyes_true ?_
        dsimp only
        rw [if_pos rfl]
        refine he _ hm B1 H0 B2 H2 _ _ S3 fun v B4 H4 s4 dv => ?_
        have st := s2.trans s4
        have hL4 : H4 L = some (.lst acc) := st.hh.at hL
        have bL4 : B4 L = none := st.fr L hLne bL
        have hA4 := DqAll.up st.bb _ _ hA
        refine ⟨acc, hL4, ?_, B4, acc ++ [v], ?_, bL4, upd_same, ?_, ?_⟩
        · have h1 := hA.len
          rw [List.length_map, List.length_take] at h1
          omega
        · exact (S'.step st).updFree bL4 h0L hfoot (.inr ⟨_, hL4, nt_lst⟩) nt_lst.1
        · rw [List.take_add_one, ed, List.map_append]
          exact hA4.app (.cons dv .nil)
        · exact (sp.trans st).updNew nL bL4 ⟨_, hL4, nt_lst⟩ nt_lst.1
    · have e : k = xs.length := by omega
      subst e
      rw [List.take_length] at hA
      exact .inl ⟨y2 (by rw [List.length_map]), q L acc B' H' (s1.trans sp) (s1.hh.free nL) bL hL hA⟩
/-! ### dicts -/
theorem wp_newDict {i : Nat} (q : E.nx (δ.set i (.own (.m [])))) : WP K (tAsg tDNewK (gName i)) E δ := fun B0 H0 B H σ D L S => fun p np => by
  have s1 : Stp B H B (upd H p (.dK [])) := .newOwn S.hist.bh np
  refine L.nx _ _ B _ ((S.step s1).set (x := .own (.m [])) (show SlotOk K B (upd H p (.dK [])) H0 (some (.ref p)) (.own (.m [])) from ⟨p, .dK [], rfl, upd_same, S.hist.bh.free np, S.hist.hh.free np, [], rfl, .nil⟩) fun z mz => by
    rw [List.mem_singleton.mp mz]
    exact new_apart S np) q
theorem dqkv_app {B : Hp} : ∀ {vs ws : List (Key × V)} {ds es : List (D × D)}, DqKv K B vs ds → DqKv K B ws es → DqKv K B (vs ++ ws) (ds ++ es)
  | _, _, [], _, h, h' => by cases h; exact h'
  | _, _, d :: ds, _, h, h' => by
    cases h with
    | cons h1 h2 h3 => exact .cons h1 h2 (dqkv_app h3 h')
theorem dqkv_new {B : Hp} {k : Int} : ∀ {vs : List (Key × V)} {ds : List (D × D)}, DqKv K B vs ds → (∀ p ∈ ds, p.1 ≠ .int k) → valV vs (Sum.inl k) = none
  | _, [], h, _ => by cases h; rfl
  | _, d :: ds, h, hn => by
    cases h with
    | @cons key v vs e d' ds h1 h2 h3 =>
      rw [valV_neg, dqkv_new h3 fun p hp => hn p (List.mem_cons_of_mem _ hp)]
      intro z
      have z : key = Sum.inl k := z
      subst z
      exact hn _ (List.mem_cons_self ..) (by cases h1; rfl)
/-- d[k] = v, k a new int -/
theorem wp_dputNew {i : Nat} {k : Int} {kvs : List (D × D)} (e : δ[i]? = some (.own (.m kvs))) (hk : ED K tb δ (.int k)) (hv : ED K te δ d) (hn : ∀ p ∈ kvs, p.1 ≠ .int k) (hl : kvs.length < sizeLine) (q : E.nx (δ.set i (.own (.m (kvs ++ [(.int k, d)]))))) :
    WP K (sDPut (tVar i) tb te) E δ := fun B0 H0 B H σ D L S =>
  hv B0 H0 B H σ _ S fun v B1 H1 s1 a => by
    have S1 := S.step s1
    obtain ⟨p, vs, a1, hp, bp, h0, dp⟩ := S1.slotMap e
    refine ⟨_, a1, hk B0 H0 B1 H1 σ _ S1 fun w B2 H2 s2 b => ?_⟩
    cases Dq.int_inv b
    have S2 := S1.step s2
    obtain ⟨p', vs', a1', hp', bp', h0', dp'⟩ := S2.slotMap e
    rw [a1] at a1'; cases a1'
    refine ⟨p, _, rfl, DPut.k (k := Sum.inl k) hp' (by rw [dp'.len]; exact hl), ?_⟩
    rw [putK_new _ (dqkv_new dp' hn)]
    exact L.nx _ _ B2 _ (own_upd (yo := .m _) S2 e a1 bp' h0' ⟨_, rfl, dqkv_app dp' (.cons (.int _) (Dq.up s2.bb _ _ a) .nil)⟩) q
theorem Sd.freezeD {B0 H0 B H : Hp} {σ : L2.St} {i : Nat} {kvs : List (D × D)} (S : Sd K B0 H0 B H σ δ) (e : δ[i]? = some (.own (.m kvs))) : ∃ B', Sd K B0 H0 B' H σ (δ.set i (.val (.dict kvs))) ∧ Sam B B' := by
  obtain ⟨p, vs, a1, hp, bp, h0, dp⟩ := S.slotMap e
  obtain ⟨k1, k2⟩ := Stp.know (o := .dK vs) S.hist.bh bp hp
  refine ⟨upd B p (.dK vs), ⟨⟨S.hist.bb.trans k1, k2, S.hist.hh, fun a q z => ?_⟩, by rw [List.length_set]; exact S.len, fun j s ej => ?_, S.apart.less e fun o eo a ma => by cases ma⟩, k1⟩
  · have : a ≠ p := fun e => by subst e; exact q h0
    rw [upd_ne this]; exact S.hist.fr a q z
  · rcases get_set ej with ⟨rfl, rfl⟩ | ⟨hne, ej⟩
    · exact ⟨_, a1, .ref p, rfl, .dct (.inl upd_same) (DqKv.up k1 _ _ dp)⟩
    · obtain ⟨o, eo, ok⟩ := S.ok j s ej
      refine ⟨o, eo, ?_⟩
      cases s with
      | no => exact True.intro
      | ob C fs => obtain ⟨pp, dx, ws, e1, e2, e3, e4⟩ := ok; exact ⟨pp, dx, ws, e1, e2, e3, e4.up k1⟩
      | big R F => exact big_step ok (own_apart S e a1 j _ o hne ej eo) k1 (fun a z => upd_ne z) (fun _ _ => rfl)
      | val d => obtain ⟨v, e1, e2⟩ := ok; exact ⟨v, e1, Dq.up k1 _ _ e2⟩
      | own es =>
        obtain ⟨pp, ws, e1, e2, e3, e4, e5⟩ := ok
        have hne2 : pp ≠ p := fun z => by
          subst z
          subst e1
          exact S.apartOwn i j pp (.m kvs) es hne e ej a1 eo
        exact ⟨pp, ws, e1, e2, by rw [upd_ne hne2]; exact e3, e4, e5.up k1⟩
theorem wp_freezeD (i : Nat) {kvs : List (D × D)} (e : δ[i]? = some (.own (.m kvs))) (h : WP K t E (δ.set i (.val (.dict kvs)))) : WP K t E δ := fun B0 H0 B H σ D L S => by
  obtain ⟨B', S', _⟩ := S.freezeD e
  exact h B0 H0 B' H σ D L S'
end
/-- a def by a promise of some datum -/
theorem ok_wpP {P : Program} {w : World} {K : PySem.W.Frag} {mg : Str → Option Value} {base : Heap} {x qual : Str} {st : Stmt} {f : Addr} {fd : FuncData} {N ps : List Str} {k : Nat} {Pre : List D → Prop} {Post : List D → D → Prop} (F : Fun K x qual st f fd) (S : FnScope N ps (defScope st)) (len : ∀ ds, Pre ds → ds.length = ps.length)
    (hb : ∀ (cdv : Value), fd.code = cdv → ∀ (A : Around) (outer : List Env) (s : Shared) (H : Hp) (E : XK), Room k (A.deeper (PyProof.Rows.envOfC qual (defScope st) s.heap.objs.size f cdv)) →
      ∃ t, PSs (cxOf CX0 P w K mg base N qual (defScope st) f cdv A outer s H E).nox (defBody st) t ∧ ∀ ds, Pre ds → WP K t { nx := fun _ => Post ds .none, rt := fun d' => Post ds d' } (startD N ds)) : FnOk P w K mg base CX0 (k + 1) f fd ps (spP K Pre Post) := by
  refine F.okC S (fun vs H Q E h => ?_) (fun cdv hcv A outer s H vs Q E hr h => ?_)
  · obtain ⟨B, ds, r, bh, a, _⟩ := h
    rw [a.len]; exact len ds r
  · obtain ⟨t, ht, q⟩ := hb cdv hcv A outer s H E hr
    refine ⟨t, ht, ?_⟩
    obtain ⟨B, ds, r, bh, a, hq⟩ := h
    refine q ds r B H B H _ _ ⟨fun σ' H' B' δ' S' e => ?_, fun v B' H' d' hh dv e => ?_, fun _ _ _ _ _ z => z.elim, fun _ _ _ _ _ z => z.elim, fun _ _ _ _ _ _ _ _ _ _ z => z.elim, fun _ _ _ _ _ _ _ _ z => z.elim⟩ (start_sd bh a)
    · exact hq _ B' H' _ ⟨S'.hist.bb, S'.hist.bh, S'.hist.hh, S'.hist.fr⟩ .non e
    · exact hq v B' H' _ ⟨hh.bb, hh.bh, hh.hh, hh.fr⟩ dv e
end DX

namespace DX
open PySem L2
variable [TabEnv]
/-- a walk over a list or a tuple -/
def iSeq (K : PySem.W.Frag) (tl : TE) : TI := fun σ H R => iList K tl σ H R ∨ iTup K tl σ H R
theorem kpi_seq {X : Cx} {K : PySem.W.Frag} {tg l : Expr} {tl : TE} (hl : PE X l tl) (hK : X.K = K := by rfl) : PI X tg l (iSeq K tl) := by
  subst hK
  exact ⟨fun pins s σ H R I h => h.elim (fun h => (pi_list (tg := tg) hl).run pins s σ H R I h) fun h => (pi_tup (tg := tg) hl).run pins s σ H R I h⟩
theorem dqall_erase {K : PySem.W.Frag} {B : Hp} : ∀ (k : Nat) {vs : List V} {ds : List D}, DqAll K B vs ds → DqAll K B (vs.eraseIdx k) (ds.eraseIdx k)
  | _, _, [], h => by cases h; exact .nil
  | 0, _, d :: ds, h => by
    cases h with
    | cons h1 h2 => exact h2
  | k + 1, _, d :: ds, h => by
    cases h with
    | cons h1 h2 => exact .cons h1 (dqall_erase k h2)
section
variable {K : PySem.W.Frag} {δ δ' : List SV} {ta tb te : TE} {c : TT} {t u : TS} {d x y : D} {ds es : List D} {E : EndsD}
theorem ei_seq (h : ED K te δ x) (e : itemsD x = some ds) : EI K (iSeq K te) δ ds := by
  cases x with
  | list xs =>
    have e : xs = ds := Option.some.inj e
    subst e
    exact fun B0 H0 B H σ R S q => .inl (ei_list h B0 H0 B H σ R S q)
  | tuple xs =>
    have e : xs = ds := Option.some.inj e
    subst e
    exact fun B0 H0 B H σ R S q => .inr (ei_tup h B0 H0 B H σ R S q)
  | _ => cases e
def Scal : D → Prop
  | .none => True
  | .bool _ => True
  | .int _ => True
  | _ => False
theorem Scal.dq {B B' : Hp} {v : V} (s : Scal d) (h : Dq K B v d) : Dq K B' v d := by
  cases h with
  | non => exact .non
  | bl b => exact .bl b
  | int i => exact .int i
  | str x => exact .str x
  | lst _ _ => exact s.elim
  | tup _ _ => exact s.elim
  | dct _ _ => exact s.elim
/-- an owned list is read by an expression whose datum is no list -/
theorem ep_thaw {i : Nat} {P : D → Prop} (e : δ[i]? = some (.own (.l ds))) (h : EP K te (δ.set i (.val (.list ds))) P) (hs : ∀ d, P d → Scal d) : EP K te δ P := fun B0 H0 B H σ Q S q => by
  obtain ⟨p, vs, a1, hp, bp, h0, dp⟩ := S.slotOwn e
  obtain ⟨k1, k2⟩ := Stp.know (o := .lst vs) S.hist.bh bp hp
  have S2 := S.freezeAt e a1 hp bp h0 dp
  refine h B0 H0 _ H σ Q S2 fun v B2 H2 d s2 dv pd => ?_
  refine q v (fun a => if a = p then none else B2 a) H2 d ⟨fun a o ea => ?_, ⟨fun a o ea => ?_, s2.bh.tb⟩, s2.hh, fun a ha hb => ?_⟩ ((hs d pd).dq dv) pd
  · have : a ≠ p := fun z => by subst z; rw [bp] at ea; cases ea
    rw [if_neg this]
    exact (k1.trans s2.bb) _ _ ea
  · by_cases z : a = p
    · rw [if_pos z] at ea; cases ea
    · rw [if_neg z] at ea; exact s2.bh.sm _ _ ea
  · by_cases z : a = p
    · rw [if_pos z]
    · rw [if_neg z]
      exact s2.fr a ha (by rw [upd_ne z]; exact hb)
/-- a = b, b's list is owned: b is forgotten -/
theorem wp_move {i j : Nat} {xo : OD} (hij : i ≠ j) (e : δ[j]? = some (.own xo)) (q : E.nx ((δ.set j .no).set i (.own xo))) : WP K (tAsg (tVar j) (gName i)) E δ := fun B0 H0 B H σ D L S => by
  obtain ⟨p, u, a1, hp, bp, h0, rep⟩ := S.slotObj e
  refine ⟨_, a1, L.nx _ H B _ ?_ q⟩
  have e1 : σ.set i (some (.ref p)) = (σ.set j (some (.ref p))).set i (some (.ref p)) := by
    have hj : j < σ.length := (List.getElem?_eq_some_iff.mp a1).1
    have : σ.set j (some (.ref p)) = σ := by
      apply List.ext_getElem?
      intro k
      by_cases hk : j = k
      · subst hk
        rw [List.getElem?_set_self hj, a1]
      · rw [List.getElem?_set_ne hk]
    rw [this]
  rw [e1]
  refine (S.forget (i := j) (o := some (.ref p))).set (x := .own xo) (show SlotOk K B H H0 (some (.ref p)) (.own xo) from ⟨p, u, rfl, hp, bp, h0, rep⟩) fun a ma k t q' hk e2 e3 => ?_
  rw [List.mem_singleton.mp ma]
  rcases get_set e2 with ⟨_, rfl⟩ | ⟨hjk, e2⟩
  · exact fun z => by cases z
  · rw [List.getElem?_set_ne hjk] at e3
    exact own_apart S e a1 k t q' hjk e2 e3
/-- y = xs.pop(k), xs owned -/
theorem wp_popAt {i j : Nat} {n : Int} {k : Nat} (e : δ[i]? = some (.own (.l ds))) (hij : i ≠ j) (hn : ED K te δ (.int n)) (hk : n = (k : Nat)) (hkl : k < 2 ^ 62) (hd : ds[k]? = some d) (q : E.nx ((δ.set i (.own (.l (ds.eraseIdx k)))).set j (.val d))) :
    WP K (tAsg (tBM K "list" rPopAt (tVar i) (tCons te tNil)) (gName j)) E δ := fun B0 H0 B H σ D L S => by
  obtain ⟨p, vs, a1, hp, bp, h0, dp⟩ := S.slotOwn e
  refine ⟨_, a1, .inl ⟨rfl, vs, .inl (.inl hp)⟩, hn B0 H0 B H σ _ S fun v B1 H1 s1 a => ?_⟩
  cases Dq.int_inv a
  have S1 := S.step s1
  obtain ⟨p', vs', a1', hp', bp', h0', dp'⟩ := S1.slotOwn e
  rw [a1] at a1'; cases a1'
  obtain ⟨y, hy, dy⟩ := dp'.get hd
  subst hk
  have hlt : k < vs'.length := (List.getElem?_eq_some_iff.mp hy).1
  refine ⟨p, vs', (k : Nat), k, y, rfl, rfl, hp', by omega, by omega, PySem.seqIndex_of (by omega) (by omega), hy, L.nx _ _ B1 _ ?_ q⟩
  have S2 := own_upd (yo := .l (ds.eraseIdx k)) (u := .lst (vs'.eraseIdx k)) S1 e a1 bp' h0' ⟨_, rfl, ?_⟩
  · exact S2.setVal dy
  · exact dqall_erase k dp'
end
end DX
namespace DX
open PySem L2
variable [TabEnv]
/-- a promise with a ghost -/
def spG {G : Type} (K : PySem.W.Frag) (Pre : G → List D → Prop) (Post : G → D → Prop) : Sp := fun vs H Q _ => ∃ B ds g, Pre g ds ∧ Bh B H ∧ DqAll K B vs ds ∧ ∀ v B' H' d, Stp B H B' H' → Dq K B' v d → Post g d → Q v H'
theorem ep_callG {G : Type} {K : PySem.W.Frag} {δ : List SV} {ds : List D} {ta : TA} {Pre : G → List D → Prop} {Post : G → D → Prop} {X : XK} (g : G) (h : EA K ta δ ds) (r : Pre g ds) : EP K (tCall (spG K Pre Post) [] X ta) δ (Post g) := fun B0 H0 B H σ Q S q =>
  h B0 H0 B H σ _ S fun vs B1 H1 s1 a => ⟨B1, ds, g, r, s1.bh, by rw [List.append_nil]; exact a, fun v B' H' d s2 b p => q v B' H' d (s1.trans s2) b p⟩
theorem ok_wpG {G : Type} {P : Program} {w : World} {K : PySem.W.Frag} {mg : Str → Option Value} {base : Heap} {x qual : Str} {st : Stmt} {f : Addr} {fd : FuncData} {N ps : List Str} {k : Nat} {Pre : G → List D → Prop} {Post : G → D → Prop} (F : Fun K x qual st f fd) (S : FnScope N ps (defScope st)) (len : ∀ g ds, Pre g ds → ds.length = ps.length)
    (hb : ∀ (cdv : Value), fd.code = cdv → ∀ (A : Around) (outer : List Env) (s : Shared) (H : Hp) (E : XK), Room k (A.deeper (PyProof.Rows.envOfC qual (defScope st) s.heap.objs.size f cdv)) →
      ∃ t, PSs (cxOf CX0 P w K mg base N qual (defScope st) f cdv A outer s H E).nox (defBody st) t ∧ ∀ g ds, Pre g ds → WP K t { nx := fun _ => Post g .none, rt := fun d' => Post g d' } (startD N ds)) : FnOk P w K mg base CX0 (k + 1) f fd ps (spG K Pre Post) := by
  refine F.okC S (fun vs H Q E h => ?_) (fun cdv hcv A outer s H vs Q E hr h => ?_)
  · obtain ⟨B, ds, g, r, bh, a, _⟩ := h
    rw [a.len]; exact len g ds r
  · obtain ⟨t, ht, q⟩ := hb cdv hcv A outer s H E hr
    refine ⟨t, ht, ?_⟩
    obtain ⟨B, ds, g, r, bh, a, hq⟩ := h
    refine q g ds r B H B H _ _ ⟨fun σ' H' B' δ' S' e => ?_, fun v B' H' d' hh dv e => ?_, fun _ _ _ _ _ z => z.elim, fun _ _ _ _ _ z => z.elim, fun _ _ _ _ _ _ _ _ _ _ z => z.elim, fun _ _ _ _ _ _ _ _ z => z.elim⟩ (start_sd bh a)
    · exact hq _ B' H' _ ⟨S'.hist.bb, S'.hist.bh, S'.hist.hh, S'.hist.fr⟩ .non e
    · exact hq v B' H' _ ⟨hh.bb, hh.bh, hh.hh, hh.fr⟩ dv e
/-- for i, x in enumerate(..) -/
theorem wp_forE {α : Type} {xs : List α} {g : α → D} {K : PySem.W.Frag} {δ : List SV} {t : TS} {E : EndsD} {wi : TI} {i j : Nat} (I : Nat → List SV → Prop) (hw : EI K wi δ (enumD (xs.map g))) (h0 : I 0 δ)
    (hs : ∀ k x δ', xs[k]? = some x → I k δ' → WP K t { E with nx := I (k + 1), ct := I (k + 1), bk := E.nx } ((δ'.set i (.val (.int (k : Nat)))).set j (.val (g x)))) (hd : ∀ δ', I xs.length δ' → E.nx δ') : WP K (tFor wi (gTup K 2 (gCons (gName i) (gCons (gName j) gNil))) t) E δ := by
  have hl : (enumD (xs.map g)).length = xs.length := by unfold enumD; rw [List.length_map, List.length_range, List.length_map]
  refine wp_for I hw h0 (fun k d δ' e ik => ?_) (by rw [hl]; exact hd)
  have hk : k < xs.length := by
    have := (List.getElem?_eq_some_iff.mp e).1
    rwa [hl] at this
  unfold enumD at e
  rw [List.getElem?_map, List.getElem?_range (by rw [List.length_map]; exact hk)] at e
  have e2 : d = .tuple [.int (k : Nat), g xs[k]] := by
    have := Option.some.inj e
    rw [← this]
    show PyData.tuple [.int (k : Nat), (xs.map g).getD k .none] = _
    rw [List.getD_eq_getElem?_getD, List.getElem?_map, List.getElem?_eq_getElem hk]
    rfl
  subst e2
  exact ⟨_, gd_tup (gds_cons gd_name (gds_cons gd_name gds_nil)) rfl, hs k xs[k] δ' (List.getElem?_eq_getElem hk) ik⟩
theorem zipD_ints (a b : List Int) : zipD (a.map PyData.int) (b.map PyData.int) = (a.zip b).map fun x => .tuple [.int x.1, .int x.2] := by
  unfold zipD
  rw [List.zip_map, List.map_map]
  rfl
def listI (x : List Int) : D := .list (x.map PyData.int)
end DX

namespace DX
open PySem L2
variable [TabEnv]
/-- locked, or locked already -/
def tLk (t : TS) : TS := fun D σ H => tLock t D σ H ∨ t D σ H
theorem ps_lk {X : Cx} {st : Stmt} {t : TS} (h : PS X st t) : PS X st (tLk t) := ⟨fun pins s σ H D I w => w.elim (fun w => (ps_lock h).run pins s σ H D I w) fun w => h.run pins s σ H D I w⟩
section
variable {K : PySem.W.Frag} {B : Hp} {d : Addr} {od : Obj} {ks : List (Key × V)}
theorem rd_frz (hd : B d = some (.dK ks)) {a : Addr} {w : HO} (h : Rd B a w) : Rd (upd B d (.frz od (.dK ks))) a w := by
  by_cases e : a = d
  · subst e
    rcases h with h | ⟨o, h⟩
    · rw [hd] at h
      cases h
      exact .inr ⟨od, upd_same⟩
    · rw [hd] at h; cases h
  · rcases h with h | ⟨o, h⟩
    · exact .inl (by rw [upd_ne e]; exact h)
    · exact .inr ⟨o, by rw [upd_ne e]; exact h⟩
theorem rd_thaw (hd : B d = some (.frz od (.dK ks))) {a : Addr} {w : HO} (hw : ∀ o x, w ≠ .frz o x) (h : Rd B a w) : Rd (upd B d (.dK ks)) a w := by
  by_cases e : a = d
  · subst e
    rcases h with h | ⟨o, h⟩
    · rw [hd] at h
      cases h
      exact absurd rfl (hw _ _)
    · rw [hd] at h
      cases h
      exact .inl upd_same
  · rcases h with h | ⟨o, h⟩
    · exact .inl (by rw [upd_ne e]; exact h)
    · exact .inr ⟨o, by rw [upd_ne e]; exact h⟩
theorem sqL_rd {B B' : Hp} {a : Addr} {xs : List V} (f : Rd B a (.lst xs) → Rd B' a (.lst xs)) (h : SqL K B a xs) : SqL K B' a xs := h.elim (fun h => .inl (f h)) .inr
theorem sqT_rd {B B' : Hp} {a : Addr} {xs : List V} (f : Rd B a (.tup xs) → Rd B' a (.tup xs)) (h : SqT K B a xs) : SqT K B' a xs := h.elim (fun h => .inl (f h)) .inr
/-- data under a change of what may be read -/
structure RdTo (B B' : Hp) : Prop where
  l : ∀ {a : Addr} {xs : List V}, Rd B a (.lst xs) → Rd B' a (.lst xs)
  t : ∀ {a : Addr} {xs : List V}, Rd B a (.tup xs) → Rd B' a (.tup xs)
  k : ∀ {a : Addr} {xs : List (Key × V)}, Rd B a (.dK xs) → Rd B' a (.dK xs)
end
end DX
namespace L2
open PySem DX
section
variable [TabEnv] {K : PySem.W.Frag}
mutual
theorem Dq.rd {B B' : Hp} (e : RdTo B B') : ∀ (d : D) (v : V), Dq K B v d → Dq K B' v d
  | .none, _, h => by cases h; exact .non
  | .bool b, _, h => by cases h; exact .bl b
  | .int i, _, h => by cases h; exact .int i
  | .str x, _, h => by cases h; exact .str x
  | .list ds, _, h => by
    cases h with
    | lst hs ha => exact .lst (sqL_rd e.l hs) (DqAll.rd e ds _ ha)
  | .tuple ds, _, h => by
    cases h with
    | tup hs ha => exact .tup (sqT_rd e.t hs) (DqAll.rd e ds _ ha)
  | .dict ds, _, h => by
    cases h with
    | dct hs ha => exact .dct (e.k hs) (DqKv.rd e ds _ ha)
theorem DqAll.rd {B B' : Hp} (e : RdTo B B') : ∀ (ds : List D) (vs : List V), DqAll K B vs ds → DqAll K B' vs ds
  | [], _, h => by cases h; exact .nil
  | d :: ds, _, h => by
    cases h with
    | cons h1 h2 => exact .cons (Dq.rd e d _ h1) (DqAll.rd e ds _ h2)
theorem DqKv.rd {B B' : Hp} (e : RdTo B B') : ∀ (ds : List (D × D)) (vs : List (Key × V)), DqKv K B vs ds → DqKv K B' vs ds
  | [], _, h => by cases h; exact .nil
  | (f, d) :: ds, _, h => by
    cases h with
    | cons h1 h2 h3 => exact .cons (Dq.rd e f _ h1) (Dq.rd e d _ h2) (DqKv.rd e ds _ h3)
end
end
end L2
namespace DX
open PySem L2
variable [TabEnv]
section
variable {K : PySem.W.Frag} {B : Hp} {d : Addr} {od : Obj} {ks : List (Key × V)}
theorem OwnRep.rd {B B' : Hp} {o : HO} (e : RdTo B B') : ∀ {x : OD}, OwnRep K B o x → OwnRep K B' o x
  | .l ds, ⟨vs, a, b⟩ => ⟨vs, a, L2.DqAll.rd e ds _ b⟩
  | .m es, ⟨vs, a, b⟩ => ⟨vs, a, L2.DqKv.rd e es _ b⟩
theorem rdTo_frz (hd : B d = some (.dK ks)) : RdTo B (upd B d (.frz od (.dK ks))) := ⟨rd_frz hd, rd_frz hd, rd_frz hd⟩
theorem rdTo_thaw (hd : B d = some (.frz od (.dK ks))) : RdTo B (upd B d (.dK ks)) := ⟨rd_thaw hd (fun _ _ z => nomatch z), rd_thaw hd (fun _ _ z => nomatch z), rd_thaw hd (fun _ _ z => nomatch z)⟩
end
/-- the past, locked -/
def lockH (H0 : Hp) (d : Addr) (o : HO) : Hp := fun a => if a = d then (match H0 d with
  | none => none
  | some _ => some o) else H0 a
theorem lockH_ne {H0 : Hp} {d a : Addr} {o : HO} (h : a ≠ d) : lockH H0 d o a = H0 a := by unfold lockH; rw [if_neg h]
theorem lockH_none {H0 : Hp} {d a : Addr} {o : HO} (h : H0 a = none) : lockH H0 d o a = none := by
  unfold lockH
  by_cases e : a = d
  · subst e; rw [if_pos rfl, h]
  · rw [if_neg e]; exact h
theorem lockH_some {H0 : Hp} {d : Addr} {o x : HO} (h : lockH H0 d o d = some x) : x = o := by
  unfold lockH at h
  rw [if_pos rfl] at h
  cases e : H0 d with
  | none => rw [e] at h; cases h
  | some y => rw [e] at h; cases h; rfl
section
variable {K : PySem.W.Frag} {B0 H0 B H B' H' : Hp} {σ σ' : L2.St} {δ δ' : List SV} {d : Addr} {od : Obj} {ks : List (Key × V)}
theorem nt_dK : NT (.dK ks) ∧ ∀ φ, HO.dK ks ≠ .ext φ := ⟨(fun _ z => nomatch z), (fun _ z => nomatch z)⟩
theorem nt_frz : NT (.frz od (.dK ks)) ∧ ∀ φ, HO.frz od (.dK ks) ≠ .ext φ := ⟨(fun _ z => nomatch z), (fun _ z => nomatch z)⟩
theorem Sd.lock (S : Sd K B0 H0 B H σ δ) (hd : B d = some (.dK ks)) : Sd K (upd B d (.frz od (.dK ks))) (lockH H0 d (.frz od (.dK ks))) (upd B d (.frz od (.dK ks))) (upd H d (.frz od (.dK ks))) σ δ := by
  refine ⟨⟨Sam.refl _, ⟨fun a o e => ?_, S.hist.bh.tb.upd (.inr ⟨_, S.hist.bh.at hd, nt_dK⟩) (fun _ z => nomatch z)⟩, fun a o e => ?_, fun a q z => z⟩, S.len, fun i s ei => ?_, S.apart⟩
  · by_cases x : a = d
    · subst x; rw [upd_same] at e ⊢; exact ⟨_, e, fun _ => rfl⟩
    · rw [upd_ne x] at e ⊢; exact S.hist.bh.sm _ _ e
  · by_cases x : a = d
    · subst x; rw [upd_same, lockH_some e]; exact ⟨_, rfl, fun _ => rfl⟩
    · rw [lockH_ne x] at e; rw [upd_ne x]; exact S.hist.hh _ _ e
  · obtain ⟨o, eo, ok⟩ := S.ok i s ei
    refine ⟨o, eo, ?_⟩
    cases s with
    | no => exact True.intro
    | ob C fs =>
      obtain ⟨p, dx, ws, e1, e2, e3, e4⟩ := ok
      have hp : p ≠ d := fun z => by subst z; rw [S.hist.bh.at hd] at e2; cases e2
      exact ⟨p, dx, ws, e1, by rw [upd_ne hp]; exact e2, e3, fun f y m => by
        obtain ⟨v, a, b⟩ := e4 f y m
        exact ⟨v, a, L2.Dq.rd (rdTo_frz hd) _ _ b⟩⟩
    | big R F =>
      obtain ⟨v, e1, r, st, ha⟩ := ok
      have hp : ∀ a ∈ F, a ≠ d := fun a ma z => by subst z; rw [(ha a ma).2.1] at hd; cases hd
      refine ⟨v, e1, st _ _ _ _ v r (fun w x z => L2.Dq.rd (rdTo_frz hd) _ _ z) (fun a ma o eo _ => by rw [upd_ne (hp a ma)]; exact eo), st, fun a ma => ?_⟩
      obtain ⟨h1, h2, h3⟩ := ha a ma
      exact ⟨by rw [upd_ne (hp a ma)]; exact h1, by rw [upd_ne (hp a ma)]; exact h2, lockH_none h3⟩
    | val x => obtain ⟨v, e1, e2⟩ := ok; exact ⟨v, e1, L2.Dq.rd (rdTo_frz hd) _ _ e2⟩
    | own x =>
      obtain ⟨p, u, e1, e2, e3, e4, e5⟩ := ok
      have hp : p ≠ d := fun z => by subst z; rw [hd] at e3; cases e3
      exact ⟨p, u, e1, by rw [upd_ne hp]; exact e2, by rw [upd_ne hp]; exact e3, lockH_none e4, e5.rd (rdTo_frz hd)⟩
theorem Hist.unlock (h : Hist B0 H0 B H) (hd : B d = some (.dK ks)) (S : Hist (upd B d (.frz od (.dK ks))) (lockH H0 d (.frz od (.dK ks))) B' H') : B' d = some (.frz od (.dK ks)) ∧ H' d = some (.frz od (.dK ks)) ∧ Hist B0 H0 (upd B' d (.dK ks)) (upd H' d (.dK ks)) := by
  have b1 : B' d = some (.frz od (.dK ks)) := S.bb.at upd_same
  refine ⟨b1, S.bh.at b1, fun a o e => ?_, ⟨fun a o e => ?_, S.bh.tb.upd (.inr ⟨_, S.bh.at b1, nt_frz⟩) (fun _ z => nomatch z)⟩, fun a o e => ?_, fun a q z => ?_⟩
  · by_cases x : a = d
    · subst x
      have e2 := h.bb _ _ e
      rw [hd] at e2; rw [upd_same]; exact e2
    · obtain ⟨o1, e1, q1⟩ := h.bb _ _ e
      obtain ⟨o2, e2, q2⟩ := S.bb a o1 (by rw [upd_ne x]; exact e1)
      refine ⟨o2, by rw [upd_ne x]; exact e2, fun n => ?_⟩
      have z := q1 n
      subst z
      exact q2 n
  · by_cases x : a = d
    · subst x; rw [upd_same] at e ⊢; exact ⟨_, e, fun _ => rfl⟩
    · rw [upd_ne x] at e ⊢; exact S.bh.sm _ _ e
  · by_cases x : a = d
    · subst x
      have e2 := h.hh _ _ e
      rw [h.bh.at hd] at e2
      rw [upd_same]; exact e2
    · rw [upd_ne x]; exact S.hh _ _ (by rw [lockH_ne x]; exact e)
  · have e2 := h.fr a q z
    have x : a ≠ d := fun x => by subst x; rw [hd] at e2; cases e2
    rw [upd_ne x]
    exact S.fr a (by rw [lockH_ne x]; exact q) (by rw [upd_ne x]; exact e2)
theorem Sd.unlock (h : Hist B0 H0 B H) (hd : B d = some (.dK ks)) (S : Sd K (upd B d (.frz od (.dK ks))) (lockH H0 d (.frz od (.dK ks))) B' H' σ' δ') : H' d = some (.frz od (.dK ks)) ∧ Sd K B0 H0 (upd B' d (.dK ks)) (upd H' d (.dK ks)) σ' δ' := by
  obtain ⟨b1, h1, hi⟩ := h.unlock hd S.hist
  refine ⟨h1, hi, S.len, fun i s ei => ?_, S.apart⟩
  obtain ⟨o, eo, ok⟩ := S.ok i s ei
  refine ⟨o, eo, ?_⟩
  cases s with
  | no => exact True.intro
  | ob C fs =>
    obtain ⟨p, dx, ws, e1, e2, e3, e4⟩ := ok
    have hp : p ≠ d := fun z => by subst z; rw [h1] at e2; cases e2
    exact ⟨p, dx, ws, e1, by rw [upd_ne hp]; exact e2, e3, fun f y m => by
      obtain ⟨v, a, b⟩ := e4 f y m
      exact ⟨v, a, L2.Dq.rd (rdTo_thaw b1) _ _ b⟩⟩
  | big R F =>
    obtain ⟨v, e1, r, st, ha⟩ := ok
    have hp : ∀ a ∈ F, a ≠ d := fun a ma z => by subst z; have h2 := (ha a ma).2.1; rw [b1] at h2; cases h2
    refine ⟨v, e1, st _ _ _ _ v r (fun w x z => L2.Dq.rd (rdTo_thaw b1) _ _ z) (fun a ma o eo _ => by rw [upd_ne (hp a ma)]; exact eo), st, fun a ma => ?_⟩
    obtain ⟨h1, h2, h3⟩ := ha a ma
    exact ⟨by rw [upd_ne (hp a ma)]; exact h1, by rw [upd_ne (hp a ma)]; exact h2, by rw [lockH_ne (hp a ma)] at h3; exact h3⟩
  | val x => obtain ⟨v, e1, e2⟩ := ok; exact ⟨v, e1, L2.Dq.rd (rdTo_thaw b1) _ _ e2⟩
  | own x =>
    obtain ⟨p, u, e1, e2, e3, e4, e5⟩ := ok
    have hp : p ≠ d := fun z => by subst z; rw [b1] at e3; cases e3
    exact ⟨p, u, e1, by rw [upd_ne hp]; exact e2, by rw [upd_ne hp]; exact e3, by rw [lockH_ne hp] at e4; exact e4, e5.rd (rdTo_thaw b1)⟩
end
section
variable {K : PySem.W.Frag} {δ : List SV} {t : TS} {E : EndsD} {α : Type} {xs : List α} {g1 g2 : α → D}
/-- for k, v in d.items() -/
theorem wp_items {m i j : Nat} (I : Nat → List SV → Prop) (hv : ∀ n δ', I n δ' → δ'[m]? = some (.val (.dict (xs.map fun x => (g1 x, g2 x))))) (h0 : I 0 δ)
    (hs : ∀ k x δ', xs[k]? = some x → I k δ' → WP K t { E with nx := I (k + 1), ct := I (k + 1), bk := E.nx } ((δ'.set i (.val (g1 x))).set j (.val (g2 x)))) (hd : ∀ δ', I xs.length δ' → E.nx δ') :
    WP K (tLk (tFor (iItems (tVar m)) (gTup K 2 (gCons (gName i) (gCons (gName j) gNil))) t)) E δ := by
  -- the walk over a locked dict
  have walk : ∀ (B0 H0 B H : Hp) (σ : L2.St) (D : Ends) (a : Addr) (o : Obj) (ks : List (Key × V)), Lift K B0 H0 E D → Sd K B0 H0 B H σ δ → σ[m]? = some (some (.ref a)) → B a = some (.frz o (.dK ks)) → DqKv K B ks (xs.map fun x => (g1 x, g2 x)) →
      tFor (iItems (tVar m)) (gTup K 2 (gCons (gName i) (gCons (gName j) gNil))) t D σ H := fun B0 H0 B H σ D a o ks L S hm hB hkv => by
    have hkl : ks.length = xs.length := by rw [hkv.len, List.length_map]
    refine ⟨_, hm, a, o, ks, rfl, S.hist.bh.at hB, fun k n σ' H' => n = xs.length - k ∧ k ≤ xs.length ∧ ∃ B' δ', Sd K B H0 B' H' σ' δ' ∧ I k δ', ⟨_, rfl, Nat.zero_le _, B, δ, S.past S.hist.bb (Sam.refl _), h0⟩, ?_⟩
    rintro k n σ' H' ⟨rfl, hk, B', δ', S', ik⟩
    have hH' : H' a = some (.frz o (.dK ks)) := S'.hist.bh.at (S'.hist.bb.at hB)
    by_cases hlt : k < xs.length
    · refine .inr ⟨⟨hH', by omega⟩, fun σ2 H2 => ∃ B2 δ2, Sd K B H0 B2 H2 σ2 δ2 ∧ I (k + 1) δ2, fun σ2 H2 ⟨B2, δ2, S2, i2⟩ => ⟨xs.length - (k + 1), by omega, rfl, hlt, B2, δ2, S2, i2⟩, fun x H2 yl => ?_⟩
      obtain ⟨T, kk, v, ek, rfl, nT, rfl⟩ := yl
      have item : ∀ (n : Nat) (vs : List (Key × V)) (es : List α), DqKv K B vs (es.map fun x => (g1 x, g2 x)) → ∀ kk v, vs[n]? = some (kk, v) → ∃ y, es[n]? = some y ∧ Dq K B (kV kk) (g1 y) ∧ Dq K B v (g2 y) := by
        intro n
        induction n with
        | zero =>
          intro vs es h kk v e
          cases es with
          | nil => cases h; cases e
          | cons y es =>
            cases h with
            | cons h1 h2 h3 => cases e; exact ⟨y, rfl, h1, h2⟩
        | succ n ih =>
          intro vs es h kk v e
          cases es with
          | nil => cases h; cases e
          | cons y es =>
            cases h with
            | cons h1 h2 h3 => exact ih _ es h3 kk v e
      obtain ⟨y, ey, d1, d2⟩ := item k ks xs hkv kk v ek
      have bn := S'.hist.bh.free nT
      have sn := same_new (o := .tup [kV kk, v]) bn
      have st : Stp B' H' (upd B' T (.tup [kV kk, v])) (upd H' T (.tup [kV kk, v])) := .new S'.hist.bh nT
      have S2 := S'.step st
      refine ⟨T, [kV kk, v], rfl, .inl (.inl upd_same), rfl, kV kk, [v], rfl, v, [], rfl, rfl, ?_⟩
      have S3 := (S2.setVal (i := i) (Dq.up (S'.hist.bb.trans sn) _ _ d1)).setVal (i := j) (Dq.up (S'.hist.bb.trans sn) _ _ d2)
      exact hs k y δ' ey ik B H0 _ _ _ _ ⟨fun σ4 H4 B4 δ4 S4 q => ⟨B4, δ4, S4, q⟩, fun v B4 H4 d' hh dv q => L.rt v B4 H4 d' (hh.back S.hist) dv q, fun σ4 H4 B4 δ4 S4 q => L.nx σ4 H4 B4 δ4 (S4.back S.hist) q, fun σ4 H4 B4 δ4 S4 q => ⟨B4, δ4, S4, q⟩, fun p vs B4 H4 ds hh n0 nb hp da q => L.rn p vs B4 H4 ds (hh.back S.hist) n0 nb hp da q, fun v B4 H4 d' σ4 δ4 S4 dv q => L.rs v B4 H4 d' σ4 δ4 (S4.back S.hist) dv q⟩ S3
    · have e : k = xs.length := by omega
      subst e
      exact .inl ⟨⟨hH', by omega⟩, L.nx σ' H' B' δ' (S'.back S.hist) (hd δ' ik)⟩
  intro B0 H0 B H σ D L S
  obtain ⟨v, hm, dv⟩ := S.slot (hv 0 δ h0)
  cases dv with
  | @dct a ks _ hr hkv =>
    rcases hr with hr | ⟨o, hr⟩
    · refine .inl ⟨a, .dK ks, S.hist.bh.at hr, True.intro, fun od => ?_⟩
      refine walk _ _ _ _ σ _ a od ks ⟨fun σ' H' B' δ' S' q => ?_, fun v B' H' d' hh dv q => ?_, fun σ' H' B' δ' S' q => ?_, fun σ' H' B' δ' S' q => ?_, fun p vs B' H' ds hh n0 nb hp da q => ?_, fun v B' H' d' σ' δ' S' dv q => ?_⟩ (S.lock hr) hm upd_same (L2.DqKv.rd (rdTo_frz hr) _ _ hkv)
      · obtain ⟨z1, z2⟩ := Sd.unlock S.hist hr S'
        exact ⟨z1, L.nx _ _ _ _ z2 q⟩
      · obtain ⟨z0, z1, z2⟩ := S.hist.unlock hr hh
        exact ⟨z1, L.rt _ _ _ _ z2 (L2.Dq.rd (rdTo_thaw z0) _ _ dv) q⟩
      · obtain ⟨z1, z2⟩ := Sd.unlock S.hist hr S'
        exact ⟨z1, L.bk _ _ _ _ z2 q⟩
      · obtain ⟨z1, z2⟩ := Sd.unlock S.hist hr S'
        exact ⟨z1, L.ct _ _ _ _ z2 q⟩
      · obtain ⟨z0, z1, z2⟩ := S.hist.unlock hr hh
        have hp2 : p ≠ a := fun z => by subst z; rw [z0] at nb; cases nb
        refine ⟨z1, L.rn p vs _ _ ds z2 (by rw [lockH_ne hp2] at n0; exact n0) (by rw [upd_ne hp2]; exact nb) (by rw [upd_ne hp2]; exact hp) (L2.DqAll.rd (rdTo_thaw z0) _ _ da) q⟩
      · obtain ⟨z0, _, _⟩ := S.hist.unlock hr S'.hist
        obtain ⟨z1, z2⟩ := Sd.unlock S.hist hr S'
        exact ⟨z1, L.rs _ _ _ _ _ _ z2 (L2.Dq.rd (rdTo_thaw z0) _ _ dv) q⟩
    · exact .inr (walk B0 H0 B H σ D a o ks L S hm hr hkv)
theorem wp_asgGP {te : TE} {g : TG} {P : D → Prop} (h : EP K te δ P) (q : ∀ d, P d → ∃ δ', GD K g δ d δ' ∧ E.nx δ') : WP K (tAsg te g) E δ := fun B0 H0 B H σ D L S =>
  h B0 H0 B H σ _ S fun v B1 H1 d s1 a p => by
    obtain ⟨δ', hg, q⟩ := q d p
    exact hg B0 H0 B1 H1 σ v _ (S.step s1) a fun σ' S' => L.nx σ' H1 B1 δ' S' q
end
end DX

namespace DX
open PySem PySem.Spec PyProof.Rows L2
variable [TabEnv]
/-- a set without items, when it was just made -/
abbrev eS (w : World) : Obj := { cls := .type "set", dict := none, data := .set #[] 0 (.fresh 0 0 (!w.params.followText "set-order")) }
section
variable {P : Program} {w : World} {A : Around} {E : Value → Shared → Prop} {s : Shared}
set_option maxRecDepth 100000 in
set_option maxHeartbeats 3200000 in
theorem set_of_list {l : Addr} {its : Array Value} (ns : List Int) {Q : Value → Shared → Prop} (hh : A.handled = none)
    (hl : s.heap.IsList l its) (hi : IntsAre its.toList ns) (hb : ns.length + 1 < scanBound)
    (K : ∀ (h' : Heap) (tk c : Nat), SetR w h' s.heap.objs.size (fun j => decide (j ∈ ns)) c → c ≤ ns.length →
      (∀ b o, s.heap.get? b = some o → h'.get? b = some o) → Q (.ref s.heap.objs.size) { s with heap := h', toks := tk }) :
    wpAny (model P w) A (call (.type "set") [.ref l]) Q E s := by
  have size_eq : its.size = ns.length := by
    have q := IntsAre.length hi
    rwa [Array.length_toList] at q
  obtain ⟨c0, tl, m0⟩ := F.called_set.mro
  have m1 := F.called_set.made
  have m2 := F.called_set.sub
  have m3 := F.called_set.notType
  have m4 := F.called_set.canCreate
  have m5 := F.typeCall_set_1 (.ref l)
  refine wpAny_call (codeAny_of_tree (show wpAny _ _ (callAny (.type "set") _) _ _ _ from ?_))
  refine wpAny_pure ⟨Code.quiet_builtin _ (by decide +kernel), codeAny_builtin PySem.F.entry_type_call ?_⟩
  rw [Around.under_plain (weight_type_call_type "set" [.ref l] []) rfl]
  repeat (any_goals (first | assumption | wp_step))
  refine codeAny_mono (code_set_led1 (.ref l) (E := E)
    (Q₁ := fun v s₁ => v = .ref s.heap.objs.size ∧ s₁ = { s with heap := s.heap.push (eS w) }) ⟨rfl, rfl⟩) fun r s₁ hr => ?_
  cases r with
  | error e => exact hr
  | ok fl =>
    cases fl with
    | ret obj =>
      obtain ⟨rfl, rfl⟩ := hr
      have at0 : (s.heap.push (eS w)).get? s.heap.objs.size = some (eS w) := Heap.get?_push_size _ rfl
      have ty0 : Shared.TypeIs { s with heap := s.heap.push (eS w) } (.ref s.heap.objs.size) "set" := ⟨_, at0, rfl⟩
      have n1 := F.called_set.init.lookup
      have n2 := F.called_set.init.bind (.ref s.heap.objs.size)
      repeat (any_goals (first | assumption | wp_step))
      refine codeAny_mono (codeAny_call_builtin
        (R := wants (fun r s₂ => r = .none ∧ ∃ h' tk c, s₂ = { s with heap := h', toks := tk } ∧
          SetR w h' s.heap.objs.size (fun j => decide (j ∈ ns)) c ∧ c ≤ ns.length ∧
          ∀ b o, s.heap.get? b = some o → h'.get? b = some o) E)
        F.called_set.init.plain F.entry_set_init (check_set_init_1 ty0 ?_)) fun r₂ s₂ hr₂ => ?_
      · obtain ⟨⟨xc, xd, xt, xs⟩, hol, hcl, nl, hdl⟩ := hl
        simp only at hcl hdl
        subst hcl; subst hdl
        have ol : (s.heap.push (eS w)).get? l = some { cls := .type "list", dict := xd, data := .seq its nl, slots := xs } := Heap.get?_push_of_some _ hol
        have p1 := F.sub_list_set
        have p2 := F.sub_list_frozenset
        have p3 : (Value.type "list" == Value.type "dict") = false := by decide
        have il : (s.heap.push (eS w)).IsList l its := ⟨_, ol, rfl, nl, rfl⟩
        unfold Builtin.«set.__init__» noKeywords Builtin.Frozenset.updateFrom
        generalize hPI : pyIter = PI
        wp_walk
        subst hPI
        refine wpAny_pyIter_list il (wpAny_bind (wpAny_runValue ?_))
        have lt0 : l < s.heap.objs.size := Heap.lt_size hol
        have h3 : A.in1.in1.in1.handled = none := by simp [hh]
        have ne1 : l ≠ (s.heap.push (eS w)).objs.size := by rw [Heap.size_push]; exact Nat.ne_of_lt (Nat.lt_succ_of_lt lt0)
        have ne2 : s.heap.objs.size ∉ [(s.heap.push (eS w)).objs.size, l] := by
          rw [Heap.size_push]
          simp only [List.mem_cons, List.not_mem_nil, or_false, not_or]
          exact ⟨Nat.ne_of_lt (Nat.lt_succ_self _), Nat.ne_of_gt lt0⟩
        have val : ∀ (i : Nat) (v : Value), its[i]? = some v → ∃ k t, ns[i]? = some k ∧ v = .int k t := fun i v hv => by
          have hlt : i < ns.length := by rw [← size_eq]; exact (Array.getElem?_eq_some_iff.mp hv).1
          obtain ⟨t, e⟩ := PyProof.Rows.IntsAre.int_at hi i v (by rw [Array.getElem?_toList]; exact hv)
          refine ⟨ns[i], t, List.getElem?_eq_getElem hlt, ?_⟩
          rw [e, List.getD_eq_getElem?_getD, List.getElem?_eq_getElem hlt] <;> rfl
        refine set_update_ints ((Walks.list h3 _ l ne1 its).toS) s.heap.objs.size ne2 ns size_eq hb val (its.size - 0) 0 _ (by omega) (Nat.zero_le _)
          ⟨⟨_, Heap.get?_push_size _ rfl, rfl, rfl⟩, (il.push _)⟩ ⟨0, Nat.le_refl 0, setR_new_at (Heap.get?_push_of_some _ at0)⟩ ?_
        rintro ⟨h2, g2, d2, tk2, os2⟩ c2 hm hc2 hS2
        have eg : g2 = s.gens := hm.gens
        have ed : d2 = s.drawn := hm.drawn
        have eo : os2 = s.os := hm.os
        subst eg; subst ed; subst eo
        show wpAny _ _ _ _ _ _
        refine wpAny_pure ?_
        show wpAny _ _ (ret Value.none) _ _ _
        rw [size_eq] at hc2
        refine wpAny_pure ⟨rfl, h2, tk2, c2, rfl, hS2, hc2, fun b o e => ?_⟩
        have b0 : b < s.heap.objs.size := Heap.lt_size e
        refine hm.heap b o ?_ (Heap.get?_push_of_some _ (Heap.get?_push_of_some _ e))
        rw [Heap.size_push]
        simp only [List.mem_cons, List.not_mem_nil, or_false, not_or]
        exact ⟨Nat.ne_of_lt b0, Nat.ne_of_lt (Nat.lt_succ_of_lt b0)⟩
      · cases r₂ with
        | error e => exact hr₂
        | ok fl₂ =>
          cases fl₂ with
          | ret r =>
            obtain ⟨rfl, h2, tk2, c2, rfl, hS2, hc2, k2⟩ := hr₂
            repeat (any_goals (first | assumption | wp_step))
            exact K _ _ _ hS2 hc2 k2
          | _ => exact hr₂.elim
    | _ => exact hr.elim
end
/-- set(xs) of a list of ints -/
def rSetL (K : PySem.W.Frag) (w : World) : List V → Hp → VK → Prop := fun xs H Q => ∃ (p : Addr) (ns : List Int), xs = [.ref p] ∧ SqL K H p (ns.map V.int) ∧ ns.length ≤ 1000 ∧ ∀ a c, H a = none → c ≤ ns.length → Q (.ref a) (upd H a (SetO w a (fun j => decide (j ∈ ns)) c))
theorem cr_setL {X : Cx} {K : PySem.W.Frag} (hc : X.calm = true) (hK : X.K = K := by rfl) : CallR X (.type "set") (rSetL K X.w) := by
  subst hK
  intro pins s σ H xs us Q I r h
  obtain ⟨p, ns, rfl, hq, hl, q⟩ := h
  cases r with
  | cons r rr =>
    cases rr
    cases r
    obtain ⟨its, rv, pt, hz⟩ := I.list hq
    have hi : IntsAre its.toArray.toList ns := ints_of_vals rv
    refine set_of_list ns (I.ok.hd hc) (show s.heap.IsList p its.toArray from pt.isList) hi (by unfold scanBound; omega) fun h' tk c R1 hcn k => ?_
    exact ⟨.ref _, upd H s.heap.objs.size _, I.laid (t' := tk) k (Nat.le_refl _) (setO_new R1), rfl, q _ _ (I.hok.fresh (Nat.le_refl _)) hcn⟩
end DX

namespace DX
open PySem PySem.Spec PyProof.Rows L2
open AutoSeq1 (wpAny_loadPart')
variable [TabEnv]
/-! ### enumerate over a tuple -/
abbrev tupIt (l : Addr) : Obj := { cls := .type "tuple_iterator", data := .fields #[.ref l, .int 0 0] }
abbrev enumOb (i : Addr) : Obj := { cls := .type "enumerate", data := .fields #[.none, .bool false, .ref i, rawInt 0, .none, .none] }
theorem enum_new_tup (l : Addr) (its : Array Value) : Meets (Builtin.«enumerate.__new__» ⟨[.type "enumerate", .ref l], []⟩)
    (fun _ R s => s.heap.IsTuple l its ∧ R (.ok (.ret (.ref (s.heap.push (tupIt l)).objs.size))) { s with heap := (s.heap.push (tupIt l)).push (enumOb s.heap.objs.size) }) :=
  .of_wp fun prog w A R s z => by
    obtain ⟨hp, g, d, tk, os⟩ := s
    obtain ⟨tl, z⟩ := z
    obtain ⟨⟨c, dd, dt, sl⟩, ho, hc, n, hd⟩ := id tl
    simp only at hc hd
    subst hc; subst hd
    have hsub := sub_enumerate
    wp_walk using wpAny_loadPart' ho
    refine wpAny_stack_any fun st => wpAny_pure ?_
    split
    · rename_i c _ _ _ _ _
      cases (c == Value.type "enumerate") <;> (wp_walk using wpAny_loadPart' ho, wpAny_pyIter_tuple tl; exact ⟨_, rfl, z⟩)
    · wp_walk using wpAny_loadPart' ho, wpAny_pyIter_tuple tl
      exact ⟨_, rfl, z⟩
section
variable {prog : Program} {w : World} {A : Around} {E : Value → Shared → Prop} {s : Shared}
theorem enum_of_tup {l : Addr} {its : Array Value} {Q : Value → Shared → Prop} (tl : s.heap.IsTuple l its)
    (k : ∀ h', IsEnum h' (s.heap.objs.size + 1) s.heap.objs.size 0 .none → h'.IsTupleIter s.heap.objs.size l 0 →
      (∀ b o, s.heap.get? b = some o → h'.get? b = some o) → Q (.ref (s.heap.objs.size + 1)) { s with heap := h' }) :
    wpAny (model prog w) A (call (.type "enumerate") [.ref l]) Q E s := by
  refine callType_new F.called_enumerate (by decide) (F.typeCall_enumerate_1 _) (F.newCall_enumerate_1 _) (fun obj => F.args_object_init_2 obj _) F.entry_enumerate_new (enum_new_tup l its) ⟨tl, ?_⟩
  have z1 : (s.heap.push (tupIt l)).objs.size = s.heap.objs.size + 1 := Heap.size_push ..
  have z2 := Heap.get?_push_size (s.heap.push (tupIt l)) (o := enumOb s.heap.objs.size) rfl
  rw [z1] at z2
  show _ ∧ _
  rw [z1]
  exact ⟨⟨_, z2, rfl⟩, k _ z2 ⟨_, Heap.get?_push_of_some _ (Heap.get?_push_size _ rfl), rfl, rfl⟩ fun b o x => Heap.get?_push_of_some _ (Heap.get?_push_of_some _ x)⟩
end
/-- a tuple's items with their places, each in a new pair -/
def IteT (K : PySem.W.Frag) (a : Addr) : It :=
  ⟨fun i H => ∃ (xs : List V) (x : V), SqT K H a xs ∧ xs[i]? = some x,
   fun i H v H' => ∃ T x, v = .ref T ∧ H T = none ∧ H' = upd H T (.tup [.int (i : Nat), x]) ∧ ∀ xs, SqT K H a xs → xs[i]? = some x,
   fun i H => ∃ xs : List V, SqT K H a xs ∧ xs.length ≤ i⟩
theorem turn_enumT {P : Program} {w : World} {K : PySem.W.Frag} {elts : List Expr} {kk : Nat} {tpos : Pos} (a e it : Addr) :
    Turn P w K (.Tuple elts kk tpos) (IteT K a) [e, it] e (fun i h => (∃ old, IsEnum h e it ((i : Nat) : Int) old) ∧ h.IsTupleIter it a i ∧ e ≠ it) where
  mem := by simp
  obj := fun i h ⟨⟨old, he⟩, ⟨o, ho, hc, hd⟩, _⟩ b hb => by
    rcases List.mem_cons.mp hb with z | z
    · rw [z]; exact ⟨_, he, fun v q => nomatch q⟩
    · rw [List.mem_singleton.mp z]; exact ⟨o, ho, fun v q => by rw [hd] at q; cases q⟩
  keep := fun i h h' ⟨⟨old, he⟩, ⟨o, ho, r⟩, hne⟩ k => ⟨⟨old, k e (by simp) _ he⟩, ⟨o, k it (by simp) _ ho, r⟩, hne⟩
  item := by
    rintro X hP hw hK hc i pins s σ H E I hf ⟨⟨old, he⟩, hit, hne⟩ ⟨xs, x, hq, hx⟩
    subst hP hw hK
    obtain ⟨its, rv, p, hz⟩ := I.tuple hq
    obtain ⟨u, hu, ru⟩ := rv.get hx
    have le : e < s.heap.objs.size := Heap.lt_size he
    have li : it < s.heap.objs.size := by obtain ⟨_, q, _⟩ := hit; exact Heap.lt_size q
    by_cases hai : a = it
    · exfalso
      subst hai
      obtain ⟨o, q1, q2, _⟩ := hit
      obtain ⟨o', q1', q2', _⟩ := p
      rw [q1] at q1'; cases q1'
      rw [q2] at q2'; injection q2' with q3; exact absurd q3 (by decide)
    by_cases hea : e = a
    · exfalso
      subst hea
      obtain ⟨o', q1', q2', _⟩ := p
      rw [he] at q1'; cases q1'
      injection q2' with q3; exact absurd q3 (by decide)
    have hlt : i < its.toArray.size := by
      have := (List.getElem?_eq_some_iff.mp hu).1
      simpa using this
    refine wpAny_pyNext_enum_itemD (Draws.tuple (A := X.A.in1) (show X.A.in1.handled = none from I.ok.hd hc) it a hai its.toArray) he ⟨hit, p⟩ hlt hne (by
      simp only [List.mem_cons, List.not_mem_nil, or_false, not_or]
      exact ⟨hne, hea⟩) fun v h1 tk hv ho st1 hT hsz hk => ?_
    have ev : v = u := by
      have hv : its.toArray[i]? = some v := hv
      have hu2 : its.toArray[i]? = some u := by simpa using hu
      rw [hu2] at hv; exact (Option.some.inj hv).symm
    subst ev
    refine ⟨_, rfl, wpAny_letOwnedTupleGo_enum (s := { s with heap := h1, toks := tk + 1 }) ho fun h2 he2 sb => ?_⟩
    have T2 : h2.get? s.heap.objs.size = some { cls := .type "tuple", data := .seq #[.int i tk, v] } := (sb.2 _ (Nat.ne_of_gt le)).trans hT
    have new : ObjOk X.prog X.w (upd H s.heap.objs.size (.tup [.int (i : Nat), x])) h2 s.heap.objs.size (.tup [.int (i : Nat), x]) :=
      ⟨by show 2 ≤ sizeLine; decide, [.int i tk, v], .cons ⟨_, rfl⟩ (.cons ru .nil), ⟨_, T2, rfl, _, rfl⟩⟩
    have I1 : Inv X pins σ (upd H s.heap.objs.size (.tup [.int (i : Nat), x])) { s with heap := h2, toks := tk + 1 } :=
      I.turnedNew (ch := [e, it]) (fun b ob hb q => by
        simp only [List.mem_cons, List.not_mem_nil, or_false, not_or] at hb
        exact (sb.2 b hb.1).trans (hk b ob hb.1 hb.2 q)) hf (Nat.le_refl _) new
    obtain ⟨o5, q5, r5⟩ := st1.1
    refine ⟨.ref s.heap.objs.size, _, I1, rfl, ⟨_, x, rfl, I.hok.fresh (Nat.le_refl _), rfl, fun ys hy => by rw [I.tuple_inj hy hq]; exact hx⟩, ⟨⟨v, ?_⟩, ⟨o5, (sb.2 it (Ne.symm hne)).trans q5, r5⟩, hne⟩, fun b hb => ?_⟩
    · rw [Int.natCast_succ]; exact he2
    · have hb' : b < s.heap.objs.size := by
        rcases List.mem_cons.mp hb with z | z
        · rw [z]; exact le
        · rw [List.mem_singleton.mp z]; exact li
      rw [upd_ne (Nat.ne_of_lt hb')]
      exact (hf b hb).1
  done := by
    rintro X hP hw hK hc i pins s σ H E I hf ⟨⟨old, he⟩, hit, hne⟩ ⟨xs, hq, hx⟩
    subst hP hw hK
    obtain ⟨its, rv, p, hz⟩ := I.tuple hq
    obtain ⟨f0, f1, f2, f3, f4, f5⟩ := hf it (by simp)
    by_cases hai : a = it
    · exfalso
      subst hai
      obtain ⟨o, q1, q2, _⟩ := hit
      obtain ⟨o', q1', q2', _⟩ := p
      rw [q1] at q1'; cases q1'
      rw [q2] at q2'; injection q2' with q3; exact absurd q3 (by decide)
    have hT : s.TypeIs (.ref e) "enumerate" := ⟨_, he, rfl⟩
    unfold pyNext
    refine wpAny_bind (wpAny_attempt (wpAny_callSpecial?_slot (name := Str.ofString "__next__") hT F.slot_enumerate_next
      (wpAny_call_entry F.slot_enumerate_next hT F.entry_enumerate_next ?_ (F.args_enumerate_next_1 _))))
    refine wpAny_bind (m := field (.ref e) 2) (wpAny_field he rfl (x := .ref it) rfl ?_)
    refine wpAny_bind (RZ.nextOf_tuple_end (show X.A.in1.handled = none from I.ok.hd hc) hit (show s.heap.IsTuple a its.toArray from p) (by
      have := rv.length
      simp; omega) fun h' y eb hx' => ?_)
    obtain ⟨o, ho, hc'⟩ := hx'
    refine wpAny_bind (wpAny_isInstance (T := "StopIteration") (b := true) ⟨o, ho, hc'⟩ isSubtype_stop ?_)
    exact wpAny_pure ⟨rfl, I.turned (t' := s.toks) (fun b o hb q => eb b o hb q) f0 f1 f3 f4 f5⟩
  self := fun A i s Q E ⟨⟨_, he⟩, _⟩ h => wpAny_pyIter_enum he h
def iEnumT (K : PySem.W.Frag) (ta : TA) : TI := fun σ H R => ta σ H fun vs H1 => ∃ a xs, vs = [.ref a] ∧ SqT K H1 a xs ∧ R (IteT K a) H1
theorem pi_enumT {X : Cx} {K : PySem.W.Frag} {e : Expr} {ta : TA} {p pos tpos : Pos} {elts : List Expr} {kk : Nat} (hg : Gl X "enumerate") (hm : X.mg "enumerate" = none) (ha : PA X [e] ta) (hK : X.K = K := by rfl)
    (hs : starEach [e] X.env = [(false, eval e X.env)] := by rfl) : PI X (.Tuple elts kk tpos) (.Call (.Name "enumerate" p) [e] [] pos) (iEnumT K ta) := by
  subst hK
  constructor
  intro pins s σ H R I h
  refine Call_ (ld_blt I hg hm boot_enumerate (PyProof.Rows.callWith_type1 (thn (ha.run pos pins s σ H _ I h) ?_) hs rfl))
  rintro us s1 ⟨vs, H1, I1, r1, a, xs, rfl, hq, q⟩
  cases r1 with
  | cons r rr =>
    cases rr
    cases r
    obtain ⟨its, rv, pt, hz⟩ := I1.tuple hq
    refine enum_of_tup (show s1.heap.IsTuple a its.toArray from pt) fun h' he hit hk => wpAny_pyIter_enum he ?_
    refine ⟨s1.heap.objs.size + 1, [s1.heap.objs.size + 1, s1.heap.objs.size], _, _, H1, rfl, I1.kept (t' := s1.toks) hk, turn_enumT a (s1.heap.objs.size + 1) s1.heap.objs.size, ⟨⟨.none, he⟩, hit, Nat.succ_ne_self _⟩, fun b hb => ?_, q⟩
    have le : s1.heap.objs.size ≤ b := by
      rcases List.mem_cons.mp hb with z | z
      · rw [z]; exact Nat.le_add_right _ _
      · rw [List.mem_singleton.mp z]; exact Nat.le_refl _
    exact I1.fpOk le (I1.hok.fresh le)
/-- over a list or a tuple -/
def iEnumA (K : PySem.W.Frag) (ta : TA) : TI := fun σ H R => iEnum K ta σ H R ∨ iEnumT K ta σ H R
theorem kpi_enumA {X : Cx} {K : PySem.W.Frag} {e : Expr} {ta : TA} {p pos tpos : Pos} {elts : List Expr} {kk : Nat} (hg : Gl X "enumerate") (hm : X.mg "enumerate" = none) (ha : PA X [e] ta) (hK : X.K = K := by rfl)
    (hs : starEach [e] X.env = [(false, eval e X.env)] := by rfl) : PI X (.Tuple elts kk tpos) (.Call (.Name "enumerate" p) [e] [] pos) (iEnumA K ta) := by
  have h1 := pi_enumT (tpos := tpos) (elts := elts) (kk := kk) (p := p) (pos := pos) hg hm ha hK hs
  subst hK
  have h2 := pi_enum (tpos := tpos) (elts := elts) (kk := kk) (p := p) (pos := pos) hg hm ha hs
  exact ⟨fun pins s σ H R I h => h.elim (h2.run pins s σ H R I) (h1.run pins s σ H R I)⟩
theorem kpi_zipA {X : Cx} {K : PySem.W.Frag} {e e2 : Expr} {ta : TA} {p pos tpos : Pos} {elts : List Expr} {kk : Nat} (hg : Gl X "zip") (hm : X.mg "zip" = none) (ha : PA X [e, e2] ta) (hK : X.K = K := by rfl)
    (hs : starEach [e, e2] X.env = (false, eval e X.env) :: starEach [e2] X.env := by rfl) (hpl : (backTo pos (starEach [e2] X.env)).any (·.1) = false := by rfl) : PI X (.Tuple elts kk tpos) (.Call (.Name "zip" p) [e, e2] [] pos) (RZ.iZipA K ta) := by subst hK; exact RZ.pi_zipA hg hm ha hs hpl
end DX

namespace DX
open PySem L2
variable [TabEnv]
/-! ### rules with the written part named -/
def rSlB (K : PySem.W.Frag) : V → Option Int → Option Int → Hp → VK → Prop := fun x lo hi H Q => rSlL K x lo hi H Q ∨ L2.rSlA K x lo hi H Q
def rCatA (K : PySem.W.Frag) : R2 := fun x y H Q => rCat x y H Q ∨ rCatT K x y H Q
section
variable {X : Cx} {K : PySem.W.Frag} {w : World}
theorem kx_slB (hK : X.K = K := by rfl) : SlR X (rSlB K) := by subst hK; exact SlR.or sl_list L2.sl_tupA
theorem opr_or {f : Value → Value → Sem Value} {r r' : R2} (h : OpR X f r) (h' : OpR X f r') : OpR X f (fun x y H Q => r x y H Q ∨ r' x y H Q) := by
  intro pins s σ H x y v u Q I rx ry q
  exact q.elim (h pins s σ H x y v u Q I rx ry) (h' pins s σ H x y v u Q I rx ry)
theorem kx_catA (hK : X.K = K := by rfl) : OpR X (binaryOp .Add) (rCatA K) := by subst hK; exact opr_or op_cat op_catT
theorem kx_in (hK : X.K = K := by rfl) : OpR X (compareOp .In) (rIn K false) := by subst hK; exact op_in_seq
theorem kx_notin (hK : X.K = K := by rfl) : OpR X (compareOp .NotIn) (rIn K true) := by subst hK; exact op_notIn_seq
theorem kx_setL (hK : X.K = K := by rfl) (hw : X.w = w := by rfl) (hc : X.calm = true := by rfl) : CallR X (.type "set") (rSetL K w) := by subst hw; exact cr_setL hc hK
theorem kx_sortedSet (hw : X.w = w := by rfl) (hc : X.calm = true := by rfl) : CallR X (.builtin "sorted") (rSortedSet w) := by subst hw; exact cr_sortedSet hc
end
section
variable {K : PySem.W.Frag} {w : World} {δ δ' δ'' : List SV} {ta tb te : TE} {c : TT} {t u : TS} {d x y : D} {ds es : List D} {E : EndsD}
/-! ### walks over lists or tuples -/
theorem ei_enumA (h : ED K ta δ x) (e : itemsD x = some ds) : EI K (iEnumA K (tCons ta tNil)) δ (enumD ds) := by
  cases x with
  | list xs =>
    have e : xs = ds := Option.some.inj e
    subst e
    exact fun B0 H0 B H σ R S q => .inl (ei_enum h B0 H0 B H σ R S q)
  | tuple xs =>
    have e : xs = ds := Option.some.inj e
    subst e
    refine fun B0 H0 B H σ R S q => .inr (h B0 H0 B H σ _ S fun v B1 H1 s1 a => ?_)
    cases a with
    | tup hs hA =>
      refine ⟨_, _, rfl, sqT_up s1.bh hs, q _ B1 H1 s1 fun B H i e1 e2 => ⟨fun hi => ?_, fun hi => ?_⟩⟩
      · have hl : i < xs.length := by
          unfold enumD at hi
          rwa [List.length_map, List.length_range] at hi
        obtain ⟨x, g1, g2⟩ := hA.get (List.getElem?_eq_getElem hl)
        refine ⟨⟨_, x, sqT_up (e1.trans e2) hs, g1⟩, fun z H' yl => ?_⟩
        obtain ⟨T, x', rfl, nT, rfl, f1⟩ := yl
        have ex := (f1 _ (sqT_up (e1.trans e2) hs)).symm.trans g1
        cases ex
        have sn := same_new (o := .tup [.int (i : Nat), x]) (e2.free nT)
        refine ⟨upd B T (.tup [.int (i : Nat), x]), _, .new e2 nT, ?_, .tup (.inl (.inl upd_same)) (.cons (.int _) (.cons (Dq.up (e1.trans sn) _ _ g2) .nil))⟩
        unfold enumD
        rw [List.getElem?_map, List.getElem?_range hl]
        show some (PyData.tuple [.int (i : Nat), xs.getD i .none]) = _
        rw [List.getD_eq_getElem?_getD, List.getElem?_eq_getElem hl]
        rfl
      · refine ⟨_, sqT_up (e1.trans e2) hs, ?_⟩
        unfold enumD at hi
        rw [List.length_map, List.length_range] at hi
        rw [hA.len]; omega
  | _ => cases e
theorem ei_zipL (h : ED K ta δ (.list ds)) (h' : ED K tb δ (.list es)) : EI K (RZ.iZipA K (tCons ta (tCons tb tNil))) δ (zipD ds es) := fun B0 H0 B H σ R S q => by
  have := ei_zip h h' B0 H0 B H σ R S q
  refine h B0 H0 B H σ _ S fun v B1 H1 s1 a => h' B0 H0 B1 H1 σ _ (S.step s1) fun w B2 H2 s2 b => ?_
  cases a with
  | lst hs hA =>
    cases b with
    | lst ks kA =>
      have hA2 := DqAll.up s2.bb _ _ hA
      have hs2 := s2.bb.seq hs
      refine ⟨_, _, _, _, rfl, .inl ⟨s2.bh.seq hs2, s2.bh.seq ks, q _ B2 H2 (s1.trans s2) fun B H i e1 e2 => ⟨fun hi => ?_, fun hi => ?_⟩⟩⟩
      · have hl : i < (ds.zip es).length := by
          unfold zipD at hi
          rwa [List.length_map] at hi
        rw [List.length_zip] at hl
        obtain ⟨x, g1, g2⟩ := hA2.get (List.getElem?_eq_getElem (show i < ds.length by omega))
        obtain ⟨y, k1, k2⟩ := kA.get (List.getElem?_eq_getElem (show i < es.length by omega))
        refine ⟨⟨_, _, x, y, (e1.trans e2).seq hs2, (e1.trans e2).seq ks, g1, k1⟩, fun z H' yl => ?_⟩
        obtain ⟨T, x', y', rfl, nT, rfl, f1, f2⟩ := yl
        have ex := (f1 _ ((e1.trans e2).seq hs2)).symm.trans g1
        have ey := (f2 _ ((e1.trans e2).seq ks)).symm.trans k1
        cases ex; cases ey
        have sn := same_new (o := .tup [x, y]) (e2.free nT)
        refine ⟨upd B T (.tup [x, y]), _, .new e2 nT, ?_, .tup (.inl (.inl upd_same)) (.cons (Dq.up (e1.trans sn) _ _ g2) (.cons (Dq.up (e1.trans sn) _ _ k2) .nil))⟩
        unfold zipD
        have h1 : i < ds.length := by omega
        have h2 : i < es.length := by omega
        have hz : (ds.zip es)[i]? = some (ds[i], es[i]) := by
          rw [List.getElem?_zip_eq_some]
          exact ⟨List.getElem?_eq_getElem h1, List.getElem?_eq_getElem h2⟩
        rw [List.getElem?_map, hz]
        rfl
      · refine ⟨_, _, (e1.trans e2).seq hs2, (e1.trans e2).seq ks, ?_⟩
        unfold zipD at hi
        rw [List.length_map, List.length_zip] at hi
        rw [hA2.len, kA.len]
        omega
theorem ei_zipT (h : ED K ta δ (.tuple ds)) (h' : ED K tb δ (.tuple es)) : EI K (RZ.iZipA K (tCons ta (tCons tb tNil))) δ (zipD ds es) := fun B0 H0 B H σ R S q => by
  refine h B0 H0 B H σ _ S fun v B1 H1 s1 a => h' B0 H0 B1 H1 σ _ (S.step s1) fun w B2 H2 s2 b => ?_
  cases a with
  | tup hs hA =>
    cases b with
    | tup ks kA =>
      have hA2 := DqAll.up s2.bb _ _ hA
      have hs2 := sqT_up s2.bb hs
      refine ⟨_, _, _, _, rfl, .inr ⟨sqT_up s2.bh hs2, sqT_up s2.bh ks, q _ B2 H2 (s1.trans s2) fun B H i e1 e2 => ⟨fun hi => ?_, fun hi => ?_⟩⟩⟩
      · have hl : i < (ds.zip es).length := by
          unfold zipD at hi
          rwa [List.length_map] at hi
        rw [List.length_zip] at hl
        obtain ⟨x, g1, g2⟩ := hA2.get (List.getElem?_eq_getElem (show i < ds.length by omega))
        obtain ⟨y, k1, k2⟩ := kA.get (List.getElem?_eq_getElem (show i < es.length by omega))
        refine ⟨⟨_, _, x, y, sqT_up (e1.trans e2) hs2, sqT_up (e1.trans e2) ks, g1, k1⟩, fun z H' yl => ?_⟩
        obtain ⟨T, x', y', rfl, nT, rfl, f1, f2⟩ := yl
        have ex := (f1 _ (sqT_up (e1.trans e2) hs2)).symm.trans g1
        have ey := (f2 _ (sqT_up (e1.trans e2) ks)).symm.trans k1
        cases ex; cases ey
        have sn := same_new (o := .tup [x, y]) (e2.free nT)
        refine ⟨upd B T (.tup [x, y]), _, .new e2 nT, ?_, .tup (.inl (.inl upd_same)) (.cons (Dq.up (e1.trans sn) _ _ g2) (.cons (Dq.up (e1.trans sn) _ _ k2) .nil))⟩
        unfold zipD
        have h1 : i < ds.length := by omega
        have h2 : i < es.length := by omega
        have hz : (ds.zip es)[i]? = some (ds[i], es[i]) := by
          rw [List.getElem?_zip_eq_some]
          exact ⟨List.getElem?_eq_getElem h1, List.getElem?_eq_getElem h2⟩
        rw [List.getElem?_map, hz]
        rfl
      · refine ⟨_, _, sqT_up (e1.trans e2) hs2, sqT_up (e1.trans e2) ks, ?_⟩
        unfold zipD at hi
        rw [List.length_map, List.length_zip] at hi
        rw [hA2.len, kA.len]
        omega
/-! ### slices, sums of tuples, membership -/
theorem en_sliceB {tl th : TO} {lo hi : Option Int} (h : ED K te δ (.list ds)) (h1 : EO K tl δ lo) (h2 : EO K th δ hi) : EN K (tSl (rSlB K) te tl th) δ (cutD ds lo hi) := fun B0 H0 B H σ Q S q =>
  h B0 H0 B H σ _ S fun v B1 H1 s1 a => h1 B0 H0 B1 H1 σ _ (S.step s1) fun B2 H2 s2 => h2 B0 H0 B2 H2 σ _ ((S.step s1).step s2) fun B3 H3 s3 => by
    cases a with
    | lst hs hA =>
      have st := (s1.trans s2).trans s3
      refine .inl ⟨_, _, rfl, ((s2.trans s3).bb.trans s3.bh).seq hs, fun p hp => q p _ B3 _ (st.trans (.newOwn s3.bh hp)) (st.hh.free hp) (s3.bh.free hp) upd_same ?_⟩
      unfold cutV cutD
      rw [hA.len]
      exact (DqAll.up (s2.trans s3).bb _ _ hA).drop _ |>.take _
theorem ed_sliceT {tl th : TO} {lo hi : Option Int} (h : ED K te δ (.tuple ds)) (h1 : EO K tl δ lo) (h2 : EO K th δ hi) : ED K (tSl (rSlB K) te tl th) δ (.tuple (cutD ds lo hi)) := fun B0 H0 B H σ Q S q =>
  h B0 H0 B H σ _ S fun v B1 H1 s1 a => h1 B0 H0 B1 H1 σ _ (S.step s1) fun B2 H2 s2 => h2 B0 H0 B2 H2 σ _ ((S.step s1).step s2) fun B3 H3 s3 => by
    cases a with
    | @tup p vs _ hs hA =>
      have st := (s1.trans s2).trans s3
      have hs3 := sqT_up (s2.trans s3).bb hs
      have hA3 := DqAll.up (s2.trans s3).bb _ _ hA
      refine .inr ⟨_, _, rfl, sqT_up s3.bh hs3, fun hw => q _ B3 H3 st ?_, fun _ l hl => q _ (upd B3 l (.tup (cutV vs lo hi))) _ (st.trans (.new s3.bh hl)) (.tup (.inl (.inl upd_same)) ?_)⟩
      · have e : cutD ds lo hi = ds := by
          unfold cutD
          rw [hA.len] at hw
          rw [hw.1, hw.2, List.drop_zero, Nat.sub_zero, List.take_length]
        rw [e]
        exact .tup hs3 hA3
      · unfold cutV cutD
        rw [hA.len]
        exact DqAll.up (same_new (s3.bh.free hl)) _ _ ((hA3.drop _).take _)
theorem en_catA (ha : EN K ta δ ds) (hb : EN K tb δ es) (hl : ds.length + es.length ≤ sizeLine) : EN K (tOp (rCatA K) ta tb) δ (ds ++ es) := fun B0 H0 B H σ Q S q =>
  ha B0 H0 B H σ _ S fun p vs B1 H1 s1 n1 b1 e1 a1 => hb B0 H0 B1 H1 σ _ (S.step s1) fun p2 ws B2 H2 s2 n2 b2 e2 a2 =>
    .inl ⟨p, p2, vs, ws, rfl, rfl, s2.hh.at e1, e2, by rw [a1.len, a2.len]; exact hl, fun l hl => q l _ B2 _ ((s1.trans s2).trans (.newOwn s2.bh hl)) ((s1.trans s2).hh.free hl) (s2.bh.free hl) upd_same ((DqAll.up s2.bb _ _ a1).app a2)⟩
theorem ed_catT (ha : ED K ta δ (.tuple ds)) (hb : ED K tb δ (.tuple es)) (hn : ds ≠ []) (hl : ds.length + es.length ≤ sizeLine) : ED K (tOp (rCatA K) ta tb) δ (.tuple (ds ++ es)) := fun B0 H0 B H σ Q S q =>
  ha B0 H0 B H σ _ S fun v B1 H1 s1 a => hb B0 H0 B1 H1 σ _ (S.step s1) fun w B2 H2 s2 b => by
    cases a with
    | @tup p vs _ hs hA =>
      cases b with
      | @tup p2 ws _ ks kA =>
        have hs2 := sqT_up s2.bb hs
        have hA2 := DqAll.up s2.bb _ _ hA
        refine .inr ⟨_, _, _, _, rfl, rfl, sqT_up s2.bh hs2, sqT_up s2.bh ks, fun z => hn ?_, by rw [hA.len, kA.len]; exact hl, fun z => q _ B2 H2 (s1.trans s2) ?_, fun _ l hl2 => q _ (upd B2 l (.tup (vs ++ ws))) _ ((s1.trans s2).trans (.new s2.bh hl2)) (.tup (.inl (.inl upd_same)) (DqAll.up (same_new (s2.bh.free hl2)) _ _ (hA2.app kA)))⟩
        · have := hA.len
          rw [z] at this
          exact List.length_eq_zero_iff.mp this.symm
        · have e : es = [] := by
            have := kA.len
            rw [z] at this
            exact List.length_eq_zero_iff.mp this.symm
          rw [e, List.append_nil]
          exact .tup hs2 hA2
theorem inV_int {k : Int} : ∀ {ns : List Int}, inV (.int k) (ns.map V.int) = decide (k ∈ ns)
  | [] => by rfl
  | n :: ns => by
    have ih := inV_int (k := k) (ns := ns)
    unfold inV at ih ⊢
    rw [List.map_cons, List.any_cons, ih]
    show ((n == k) || decide (k ∈ ns)) = _
    by_cases e : n = k
    · subst e; simp
    · have e1 : (n == k) = false := by simpa using e
      have e2 : ¬ k = n := fun z => e z.symm
      simp [e1, e2]
theorem flat_ints : ∀ {ns : List Int}, (ns.map V.int).all flatV = true
  | [] => rfl
  | n :: ns => by rw [List.map_cons, List.all_cons, flat_ints]; rfl
theorem ed_inB {neg : Bool} {k : Int} {ns : List Int} (ha : ED K ta δ (.int k)) (hb : ED K tb δ y) (e : itemsD y = some (ns.map PyData.int)) : ED K (tOp (rIn K neg) ta tb) δ (.bool (if neg then !decide (k ∈ ns) else decide (k ∈ ns))) := fun B0 H0 B H σ Q S q =>
  ha B0 H0 B H σ _ S fun v B1 H1 s1 a => hb B0 H0 B1 H1 σ _ (S.step s1) fun w B2 H2 s2 b => by
    cases Dq.int_inv a
    cases b with
    | lst hs hA =>
      have e : _ = ns.map PyData.int := Option.some.inj e
      subst e
      cases hA.ints
      exact ⟨_, _, rfl, .inl (s2.bh.seq hs), rfl, flat_ints, by rw [inV_int]; exact q _ B2 H2 (s1.trans s2) (.bl _)⟩
    | tup hs hA =>
      have e : _ = ns.map PyData.int := Option.some.inj e
      subst e
      cases hA.ints
      exact ⟨_, _, rfl, .inr (sqT_up s2.bh hs), rfl, flat_ints, by rw [inV_int]; exact q _ B2 H2 (s1.trans s2) (.bl _)⟩
    | _ => cases e
theorem ed_in {k : Int} {ns : List Int} (ha : ED K ta δ (.int k)) (hb : ED K tb δ y) (e : itemsD y = some (ns.map PyData.int)) : ED K (tOp (rIn K false) ta tb) δ (.bool (decide (k ∈ ns))) := ed_inB ha hb e
theorem ed_notin {k : Int} {ns : List Int} (ha : ED K ta δ (.int k)) (hb : ED K tb δ y) (e : itemsD y = some (ns.map PyData.int)) : ED K (tOp (rIn K true) ta tb) δ (.bool (!decide (k ∈ ns))) := ed_inB ha hb e
/-- sorted(set(xs)) of ints -/
theorem ep_sortedSet {ns : List Int} (h : ED K te δ (.list (ns.map PyData.int))) (hl : ns.length ≤ 60) :
    EP K (tCB (rSortedSet w) (tCons (tCB (rSetL K w) (tCons te tNil)) tNil)) δ (fun d => ∃ ms : List Int, d = .list (ms.map PyData.int) ∧ ms.Pairwise (· < ·) ∧ (∀ k, k ∈ ms ↔ k ∈ ns) ∧ ms.length ≤ ns.length) := fun B0 H0 B H σ Q S q =>
  h B0 H0 B H σ _ S fun v B1 H1 s1 a => by
    cases a with
    | lst hs hA =>
      cases hA.ints
      refine ⟨_, ns, rfl, s1.bh.seq hs, by omega, fun z c hz hc => ⟨z, _, c, rfl, upd_same, by omega, fun ms p hp hm hlen np => ?_⟩⟩
      have s2 : Stp B1 H1 B1 (upd H1 z (SetO w z (fun j => decide (j ∈ ns)) c)) := .newOwn s1.bh hz
      refine q _ (upd B1 p (.lst (ms.map V.int))) _ _ ((s1.trans s2).trans (.new s2.bh np)) (.lst (.inl (.inl upd_same)) DqAll.ofInts) ⟨ms, rfl, hp, fun k => ?_, by omega⟩
      rw [hm k, decide_eq_true_eq]
/-! ### comprehensions with any target -/
def wipeD (δ : List SV) : List Nat → List SV
  | [] => δ
  | v :: vs => (wipeD δ vs).set v .no
theorem wipe_get {σ : L2.St} : ∀ (vs : List Nat) (j : Nat), (wipe σ vs)[j]? = if j ∈ vs then (σ[j]?).map (fun _ => none) else σ[j]?
  | [], j => by simp [wipe]
  | v :: vs, j => by
    show ((wipe σ vs).set v none)[j]? = _
    by_cases e : v = j
    · subst e
      rw [if_pos (List.mem_cons_self ..), List.getElem?_set]
      rw [if_pos rfl, wipe_length]
      by_cases hl : v < σ.length
      · rw [if_pos hl, List.getElem?_eq_getElem hl]; rfl
      · rw [if_neg hl, List.getElem?_eq_none (by omega)]; rfl
    · rw [List.getElem?_set_ne e, wipe_get vs j]
      by_cases h : j ∈ vs
      · rw [if_pos h, if_pos (List.mem_cons_of_mem _ h)]
      · rw [if_neg h, if_neg (fun z => (List.mem_cons.mp z).elim (fun q => e q.symm) h)]
theorem wipe_set {σ : L2.St} {vs : List Nat} {i : Nat} {x : Option V} (h : i ∈ vs) : wipe (σ.set i x) vs = wipe σ vs := by
  apply List.ext_getElem?
  intro j
  rw [wipe_get, wipe_get]
  by_cases hj : j ∈ vs
  · rw [if_pos hj, if_pos hj]
    by_cases e : i = j
    · subst e
      rw [List.getElem?_set, if_pos rfl]
      by_cases hl : i < σ.length
      · rw [if_pos hl, List.getElem?_eq_getElem hl]; rfl
      · rw [if_neg hl, List.getElem?_eq_none (by omega)]
    · rw [List.getElem?_set_ne e]
  · rw [if_neg hj, if_neg hj, List.getElem?_set_ne (fun (z : i = j) => hj (z ▸ h))]
theorem wipe_wipe {σ : L2.St} {vs : List Nat} : wipe (wipe σ vs) vs = wipe σ vs := by
  apply List.ext_getElem?
  intro j
  rw [wipe_get, wipe_get]
  by_cases hj : j ∈ vs
  · rw [if_pos hj, if_pos hj, Option.map_map]; rfl
  · rw [if_neg hj, if_neg hj]
theorem Sd.wipe {B0 H0 B H : Hp} {σ : L2.St} (S : Sd K B0 H0 B H σ δ) : ∀ vs : List Nat, Sd K B0 H0 B H (L2.wipe σ vs) (wipeD δ vs)
  | [] => S
  | v :: vs => (Sd.wipe S vs).forget
def GW (K : PySem.W.Frag) (g : TG) (vs : List Nat) (δ : List SV) (d : D) (δ' : List SV) : Prop := ∀ (B0 H0 B H : Hp) (σ : L2.St) (v : V) (Q : L2.St → Hp → Prop), Sd K B0 H0 B H σ δ → Dq K B v d → (∀ σ', Sd K B0 H0 B H σ' δ' → L2.wipe σ' vs = L2.wipe σ vs → Q σ' H) → g v σ H Q
def GWs (K : PySem.W.Frag) (g : TGs) (vs : List Nat) (δ : List SV) (ds : List D) (δ' : List SV) : Prop := ∀ (B0 H0 B H : Hp) (σ : L2.St) (us : List V) (Q : L2.St → Hp → Prop), Sd K B0 H0 B H σ δ → DqAll K B us ds → (∀ σ', Sd K B0 H0 B H σ' δ' → L2.wipe σ' vs = L2.wipe σ vs → Q σ' H) → g us σ H Q
theorem gw_name {i : Nat} {vs : List Nat} (h : i ∈ vs) : GW K (gName i) vs δ d (δ.set i (.val d)) := fun B0 H0 B H σ v Q S a q => q _ (S.setVal a) (wipe_set h)
theorem gws_nil {vs : List Nat} : GWs K gNil vs δ [] δ := fun B0 H0 B H σ us Q S h q => by
  cases h
  exact ⟨rfl, q σ S rfl⟩
theorem gws_cons {g : TG} {gs : TGs} {vs : List Nat} (h1 : GW K g vs δ d δ') (h2 : GWs K gs vs δ' ds δ'') : GWs K (gCons g gs) vs δ (d :: ds) δ'' := fun B0 H0 B H σ us Q S h q => by
  cases h with
  | cons a b => exact ⟨_, _, rfl, h1 B0 H0 B H σ _ _ S a fun σ' S' e => h2 B0 H0 B H σ' _ _ S' b fun σ2 S2 e2 => q σ2 S2 (e2.trans e)⟩
theorem gw_tup {g : TGs} {n : Nat} {vs : List Nat} (h : GWs K g vs δ ds δ') (e : ds.length = n) : GW K (gTup K n g) vs δ (.tuple ds) δ' := fun B0 H0 B H σ v Q S a q => by
  cases a with
  | tup hs hA => exact ⟨_, _, rfl, sqT_up S.hist.bh hs, hA.len.trans e, h B0 H0 B H σ _ Q S hA q⟩
theorem lcW_at {α : Type} {xs : List α} {gd : α → D} {wi : TI} {g : TG} {tt : TT} {vs : List Nat} {p : α → Bool} {f : α → D} {af : α → List SV} {B0 H0 B H : Hp} {σ : L2.St} {Q : VK} (S : Sd K B0 H0 B H σ δ)
    (hw : ∀ R, (∀ J B1 H1, Stp B H B1 H1 → YD K J B1 (xs.map gd) → R J H1) → wi σ H R) (hl : xs.length ≤ sizeLine)
    (hg : ∀ x, x ∈ xs → GW K g vs (wipeD δ vs) (gd x) (af x)) (ht : ∀ x, x ∈ xs → ET K tt (af x) (p x)) (he : ∀ x, x ∈ xs → p x = true → ED K te (af x) (f x))
    (q : ∀ l ws B' H', Stp B H B' H' → H l = none → B' l = none → H' l = some (.lst ws) → DqAll K B' ws ((xs.filter p).map f) → Q (.ref l) H') : tLc wi g tt te vs σ H Q :=
  hw _ fun J B1 H1 s1 yd L nL => by
    have S1 := S.step s1
    have hfoot := new_foot (S := S1) nL
    have h0L := S1.hist.hh.free nL
    refine ⟨fun k m H' => m = xs.length - k ∧ k ≤ xs.length ∧ ∃ B' acc, Sd K B1 H0 B' H' σ δ ∧ B' L = none ∧ H' L = some (.lst acc) ∧ DqAll K B' acc (((xs.take k).filter p).map f) ∧ Stp B1 H1 B' H', ⟨_, rfl, Nat.zero_le _, B1, [], ?_, s1.bh.free nL, upd_same, ?_, .newOwn s1.bh nL⟩, ?_⟩
    · exact (S1.past S1.hist.bb (Sam.refl _)).step (.newOwn s1.bh nL)
    · rw [List.take_zero]; exact .nil
    rintro k m H' ⟨rfl, hk, B', acc, S', bL, hL, hA, sp⟩
    obtain ⟨y1, y2⟩ := yd B' H' k S'.hist.bb S'.hist.bh
    by_cases hlt : k < xs.length
    · obtain ⟨go, yy⟩ := y1 (by rw [List.length_map]; exact hlt)
      refine .inr ⟨go, fun H'' => ∃ B'' acc, Sd K B1 H0 B'' H'' σ δ ∧ B'' L = none ∧ H'' L = some (.lst acc) ∧ DqAll K B'' acc (((xs.take (k + 1)).filter p).map f) ∧ Stp B1 H1 B'' H'', fun H'' z => ⟨xs.length - (k + 1), by omega, rfl, hlt, z⟩, fun x H2 yl => ?_⟩
      obtain ⟨B2, d', s2, ed', dp⟩ := yy x H2 yl
      have ed : xs[k]? = some xs[k] := List.getElem?_eq_getElem hlt
      have eg : d' = gd xs[k] := by
        rw [List.getElem?_map, ed] at ed'
        exact (Option.some.inj ed').symm
      subst eg
      have hm : xs[k] ∈ xs := List.getElem_mem hlt
      have hLne : H' L ≠ none := by rw [hL]; exact fun z => nomatch z
      have S2 := S'.step s2
      refine hg xs[k] hm B1 H0 B2 H2 _ _ _ (S2.wipe vs) dp fun σ3 S3 ew => ⟨ew.trans wipe_wipe, ht xs[k] hm B1 H0 B2 H2 _ _ S3 fun B3 H3 s3 => ?_⟩
      cases e : p xs[k] with
      | true =>
        refine iteT (he xs[k] hm e B1 H0 B3 H3 _ _ (S3.step s3) fun v B4 H4 s4 dv => ?_)
        have st := (s2.trans s3).trans s4
        have hL4 : H4 L = some (.lst acc) := st.hh.at hL
        have bL4 : B4 L = none := st.fr L hLne bL
        have hA4 := DqAll.up st.bb _ _ hA
        refine ⟨acc, hL4, ?_, B4, acc ++ [v], ?_, bL4, upd_same, ?_, ?_⟩
        · have h1 := hA.len
          have h2 : (((xs.take k).filter p).map f).length ≤ k := by
            rw [List.length_map]
            exact Nat.le_trans (List.length_filter_le _ _) (by rw [List.length_take]; omega)
          omega
        · exact (S'.step st).updFree bL4 h0L hfoot (.inr ⟨_, hL4, nt_lst⟩) nt_lst.1
        · rw [map_take_succ ed, if_pos e]
          exact hA4.app (.cons dv .nil)
        · exact (sp.trans st).updNew nL bL4 ⟨_, hL4, nt_lst⟩ nt_lst.1
      | false =>
        refine iteF ⟨B3, acc, S'.step (s2.trans s3), (s2.trans s3).fr L hLne bL, (s2.trans s3).hh.at hL, ?_, sp.trans (s2.trans s3)⟩
        rw [map_take_succ ed, e, if_neg Bool.false_ne_true, List.append_nil]
        exact DqAll.up (s2.trans s3).bb _ _ hA
    · have e : k = xs.length := by omega
      subst e
      rw [List.take_length] at hA
      exact .inl ⟨y2 (by rw [List.length_map]), q L acc B' H' (s1.trans sp) (s1.hh.free nL) bL hL hA⟩
theorem en_lcW {α : Type} {xs : List α} {gd : α → D} {wi : TI} {g : TG} {tt : TT} {vs : List Nat} {p : α → Bool} {f : α → D} {af : α → List SV} (hw : EI K wi δ (xs.map gd)) (hl : xs.length ≤ sizeLine)
    (hg : ∀ x, x ∈ xs → GW K g vs (wipeD δ vs) (gd x) (af x)) (ht : ∀ x, x ∈ xs → ET K tt (af x) (p x)) (he : ∀ x, x ∈ xs → p x = true → ED K te (af x) (f x)) : EN K (tLc wi g tt te vs) δ ((xs.filter p).map f) := fun B0 H0 B H σ Q S q => lcW_at S (hw B0 H0 B H σ · S) hl hg ht he q
theorem en_lcA {α : Type} {xs : List α} {gd : α → D} {wi : TI} {g : TG} {vs : List Nat} {f : α → D} {af : α → List SV} (hw : EI K wi δ (xs.map gd)) (hl : xs.length ≤ sizeLine)
    (hg : ∀ x, x ∈ xs → GW K g vs (wipeD δ vs) (gd x) (af x)) (he : ∀ x, x ∈ xs → ED K te (af x) (f x)) : EN K (tLc wi g tYes te vs) δ (xs.map f) := by
  have := en_lcW (p := fun _ => true) (f := f) (te := te) hw hl hg (fun _ _ => et_yes) fun d hd _ => he d hd
  rwa [List.filter_eq_self.mpr (fun _ _ => rfl)] at this
end
end DX

namespace DX
open PySem L2
variable [TabEnv]
section
variable {K : PySem.W.Frag} {w : World} {δ δ' δ'' : List SV} {ta tb te : TE} {c : TT} {t u : TS} {d x y : D} {ds es : List D} {E : EndsD}
theorem EP.mono {P P' : D → Prop} (h : EP K te δ P) (m : ∀ d, P d → P' d) : EP K te δ P' := fun B0 H0 B H σ Q S q => h B0 H0 B H σ Q S fun v B' H' d s a p => q v B' H' d s a (m d p)
theorem ep_catT {P Q : D → Prop} (ha : ED K ta δ (.tuple ds)) (hb : EP K tb δ P) (h : ∀ d, P d → ∃ es, d = .tuple es ∧ ds ≠ [] ∧ ds.length + es.length ≤ sizeLine ∧ Q (.tuple (ds ++ es))) : EP K (tOp (rCatA K) ta tb) δ Q := fun B0 H0 B H σ q0 S q =>
  ha B0 H0 B H σ _ S fun v B1 H1 s1 a => hb B0 H0 B1 H1 σ _ (S.step s1) fun w B2 H2 d s2 b pd => by
    obtain ⟨es, rfl, hn, hl, pq⟩ := h d pd
    cases a with
    | @tup p vs _ hs hA =>
      cases b with
      | @tup p2 ws _ ks kA =>
        have hs2 := sqT_up s2.bb hs
        have hA2 := DqAll.up s2.bb _ _ hA
        refine .inr ⟨_, _, _, _, rfl, rfl, sqT_up s2.bh hs2, sqT_up s2.bh ks, fun z => hn ?_, by rw [hA.len, kA.len]; exact hl, fun z => q _ B2 H2 _ (s1.trans s2) ?_ pq, fun _ l hl2 => q _ (upd B2 l (.tup (vs ++ ws))) _ _ ((s1.trans s2).trans (.new s2.bh hl2)) (.tup (.inl (.inl upd_same)) (DqAll.up (same_new (s2.bh.free hl2)) _ _ (hA2.app kA))) pq⟩
        · have := hA.len
          rw [z] at this
          exact List.length_eq_zero_iff.mp this.symm
        · have e : es = [] := by
            have := kA.len
            rw [z] at this
            exact List.length_eq_zero_iff.mp this.symm
          rw [e, List.append_nil]
          exact .tup hs2 hA2
theorem wp_appP {i : Nat} {P : D → Prop} (e : δ[i]? = some (.own (.l ds))) (h : EP K te δ P) (hl : ds.length < sizeLine) (q : ∀ d, P d → E.nx (δ.set i (.own (.l (ds ++ [d]))))) : WP K (tDrop (tBM K "list" rAppend (tVar i) (tCons te tNil))) E δ := fun B0 H0 B H σ D L S => by
  obtain ⟨p, vs, a1, hp, bp, h0, dp⟩ := S.slotOwn e
  refine ⟨_, a1, .inl ⟨rfl, vs, .inl (.inl hp)⟩, h B0 H0 B H σ _ S fun v B1 H1 d s1 a pd => ?_⟩
  have S1 := S.step s1
  obtain ⟨p', vs', a1', hp', bp', h0', dp'⟩ := S1.slotOwn e
  rw [a1] at a1'; cases a1'
  refine ⟨p, vs', v, rfl, rfl, hp', by rw [dp'.len]; exact hl, L.nx _ _ B1 _ (own_upd (yo := .l _) S1 e a1 bp' h0' ⟨_, rfl, dp'.app (.cons a .nil)⟩) (q d pd)⟩
/-- arguments of which one is known by a property -/
def EAP (K : PySem.W.Frag) (ta : TA) (δ : List SV) (P : List D → Prop) : Prop := ∀ (B0 H0 B H : Hp) (σ : L2.St) (Q : List V → Hp → Prop), Sd K B0 H0 B H σ δ → (∀ vs B' H' ds, Stp B H B' H' → DqAll K B' vs ds → P ds → Q vs H') → ta σ H Q
theorem eap_nil : EAP K tNil δ (fun ds => ds = []) := fun B0 H0 B H σ Q S q => q [] B H [] (.refl S.hist.bh) .nil rfl
theorem eap_cons {tr : TA} {P : D → Prop} {R : List D → Prop} (h : EP K te δ P) (hr : EAP K tr δ R) : EAP K (tCons te tr) δ (fun ds => ∃ d es, ds = d :: es ∧ P d ∧ R es) := fun B0 H0 B H σ Q S q =>
  h B0 H0 B H σ _ S fun v B1 H1 d s1 a p => hr B0 H0 B1 H1 σ _ (S.step s1) fun vs B2 H2 es s2 b r => q _ B2 H2 _ (s1.trans s2) (.cons (Dq.up s2.bb _ _ a) b) ⟨d, es, rfl, p, r⟩
theorem ep_tup {ta : TA} {P : List D → Prop} (h : EAP K ta δ P) (hl : ∀ ds, P ds → ds.length ≤ sizeLine) : EP K (tTup ta) δ (fun d => ∃ ds, d = .tuple ds ∧ P ds) := fun B0 H0 B H σ Q S q =>
  h B0 H0 B H σ _ S fun vs B1 H1 ds s1 a p => ⟨by rw [a.len]; exact hl ds p, fun l hp =>
    q (.ref l) (upd B1 l (.tup vs)) _ _ (s1.trans (.new s1.bh hp)) (.tup (.inl (.inl upd_same)) (DqAll.up (same_new (s1.bh.free hp)) _ _ a)) ⟨ds, rfl, p⟩⟩
theorem ep_callP {ta : TA} {Pre : List D → Prop} {Post : List D → D → Prop} {X : XK} {R : List D → Prop} (h : EAP K ta δ R) (r : ∀ ds, R ds → Pre ds) : EP K (tCall (spP K Pre Post) [] X ta) δ (fun d => ∃ ds, R ds ∧ Post ds d) := fun B0 H0 B H σ Q S q =>
  h B0 H0 B H σ _ S fun vs B1 H1 ds s1 a p => ⟨B1, ds, r ds p, s1.bh, by rw [List.append_nil]; exact a, fun v B' H' d s2 b p2 => q v B' H' d (s1.trans s2) b ⟨ds, p, p2⟩⟩
theorem ep_callD {ta : TA} {R : List D → D → Prop} {X : XK} {P : List D → Prop} (h : EAP K ta δ P) (r : ∀ ds, P ds → ∃ d, R ds d) : EP K (tCall (spD K R) [] X ta) δ (fun d => ∃ ds, P ds ∧ R ds d) := fun B0 H0 B H σ Q S q =>
  h B0 H0 B H σ _ S fun vs B1 H1 ds s1 a p => by
    obtain ⟨d, rd⟩ := r ds p
    exact ⟨B1, ds, d, rd, s1.bh, by rw [List.append_nil]; exact a, fun v B' H' s2 b => q v B' H' d (s1.trans s2) b ⟨ds, p, rd⟩⟩
end
end DX

namespace DX
open PySem L2
variable [TabEnv]
/-! ### answers that are new lists -/
section
variable {K : PySem.W.Frag} {δ δ' : List SV} {ta tb te : TE} {c : TT} {t u : TS} {d x y : D} {ds es : List D} {E : EndsD}
theorem wp_retL (h : EN K te δ ds) (q : E.rn ds) : WP K (tRet te) E δ := fun B0 H0 B H σ D L S =>
  h B0 H0 B H σ _ S fun p vs B1 H1 s1 np bp hp a => L.rn p vs B1 H1 ds (s1.hist S.hist) (S.hist.hh.free np) bp hp a q
theorem wp_retOwnL {i : Nat} (e : δ[i]? = some (.own (.l ds))) (q : E.rn ds) : WP K (tRet (tVar i)) E δ := fun B0 H0 B H σ D L S => by
  obtain ⟨p, vs, a1, hp, bp, h0, dp⟩ := S.slotOwn e
  exact ⟨_, a1, L.rn p vs B H ds S.hist h0 bp hp dp q⟩
def spN (K : PySem.W.Frag) (R : List D → List D → Prop) : Sp := fun vs H Q _ => ∃ B ds es, R ds es ∧ Bh B H ∧ DqAll K B vs ds ∧ ∀ p ws B' H', Stp B H B' H' → H p = none → B' p = none → H' p = some (.lst ws) → DqAll K B' ws es → Q (.ref p) H'
theorem en_call {ta : TA} {R : List D → List D → Prop} {X : XK} (h : EA K ta δ ds) (r : R ds es) : EN K (tCall (spN K R) [] X ta) δ es := fun B0 H0 B H σ Q S q =>
  h B0 H0 B H σ _ S fun vs B1 H1 s1 a => ⟨B1, ds, es, r, s1.bh, by rw [List.append_nil]; exact a, fun p ws B' H' s2 np bp hp b => q p ws B' H' (s1.trans s2) (s1.hh.free np) bp hp b⟩
end
section
variable {P : Program} {w : World} {K : PySem.W.Frag} {mg : Str → Option Value} {base : Heap}
theorem ok_wpN {x qual : Str} {st : Stmt} {f : Addr} {fd : FuncData} {N ps : List Str} {k : Nat} {R : List D → List D → Prop} (F : Fun K x qual st f fd) (S : FnScope N ps (defScope st)) (len : ∀ ds es, R ds es → ds.length = ps.length)
    (hb : ∀ (cdv : Value), fd.code = cdv → ∀ (A : Around) (outer : List Env) (s : Shared) (H : Hp) (E : XK), Room k (A.deeper (PyProof.Rows.envOfC qual (defScope st) s.heap.objs.size f cdv)) →
      ∃ t, PSs (cxOf CX0 P w K mg base N qual (defScope st) f cdv A outer s H E).nox (defBody st) t ∧ ∀ ds es, R ds es → WP K t { nx := fun _ => False, rt := fun _ => False, rn := fun es' => es' = es } (startD N ds)) : FnOk P w K mg base CX0 (k + 1) f fd ps (spN K R) := by
  refine F.okC S (fun vs H Q E h => ?_) (fun cdv hcv A outer s H vs Q E hr h => ?_)
  · obtain ⟨B, ds, es, r, bh, a, _⟩ := h
    rw [a.len]; exact len ds es r
  · obtain ⟨t, ht, q⟩ := hb cdv hcv A outer s H E hr
    refine ⟨t, ht, ?_⟩
    obtain ⟨B, ds, es, r, bh, a, hq⟩ := h
    refine q ds es r B H B H _ _ ⟨fun _ _ _ _ _ z => z.elim, fun _ _ _ _ _ _ z => z.elim, fun _ _ _ _ _ z => z.elim, fun _ _ _ _ _ z => z.elim, fun p vs B' H' ds' hh n0 nb hp da e => ?_, fun _ _ _ _ _ _ _ _ z => z.elim⟩ (start_sd bh a)
    subst e
    exact hq p vs B' H' ⟨hh.bb, hh.bh, hh.hh, hh.fr⟩ n0 nb hp da
end
/-! ### objects that are read -/
abbrev FsD := List (Str × D)
section
variable {K : PySem.W.Frag} {δ δ' : List SV} {ta tb te : TE} {d x y : D} {ds es : List D} {C : Addr} {fs : FsD}
theorem Sd.slotOb {B0 H0 B H : Hp} {σ : L2.St} (S : Sd K B0 H0 B H σ δ) {i : Nat} (e : δ[i]? = some (.ob C fs)) : ∃ p dx ws, σ[i]? = some (some (.ref p)) ∧ H p = some (.ins C dx ws) ∧ (∀ x, (ws.lookup x).isSome → x ∈ fs.map (·.1)) ∧ FldOk K B ws fs := by
  obtain ⟨o, a, p, dx, ws, rfl, r⟩ := S.ok i _ e
  exact ⟨p, dx, ws, a, r⟩
theorem ed_fld {i : Nat} {f : Str} (e : δ[i]? = some (.ob C fs)) (hm : (f, d) ∈ fs) (c : Cls K C) (n : NoAttr K C f) : ED K (tFld K (tVar i) f) δ d := fun B0 H0 B H σ Q S q => by
  obtain ⟨p, dx, ws, a, hp, _, hf⟩ := S.slotOb e
  obtain ⟨v, hv, dv⟩ := hf f d hm
  exact ⟨_, a, p, C, dx, ws, v, rfl, hp, c, n, hv, q v B H (.refl S.hist.bh) dv⟩
def Few (ws : List (Str × V)) (fs : FsD) : Prop := ∀ x, (ws.lookup x).isSome → x ∈ fs.map (·.1)
theorem Few.none {ws : List (Str × V)} (h : Few ws fs) {m : Str} (hm : m ∉ fs.map (·.1)) : ws.lookup m = none := by
  cases e : ws.lookup m with
  | none => rfl
  | some v => exact absurd (h m (by rw [e]; rfl)) hm
/-- a method that reads its object: some datum -/
def spR (K : PySem.W.Frag) (C : Addr) (Pre : FsD → List D → Prop) (Post : FsD → List D → D → Prop) : Sp := fun vs H Q _ => ∃ B p dx ws fs us ds, vs = .ref p :: us ∧ Pre fs ds ∧ Bh B H ∧ H p = some (.ins C dx ws) ∧ Few ws fs ∧ FldOk K B ws fs ∧ DqAll K B us ds ∧ ∀ v B' H' d, Stp B H B' H' → Dq K B' v d → Post fs ds d → Q v H'
/-- a method that reads its object: a new list -/
def spRN (K : PySem.W.Frag) (C : Addr) (Pre : FsD → List D → Prop) (Post : FsD → List D → List D → Prop) : Sp := fun vs H Q _ => ∃ B p dx ws fs us ds, vs = .ref p :: us ∧ Pre fs ds ∧ Bh B H ∧ H p = some (.ins C dx ws) ∧ Few ws fs ∧ FldOk K B ws fs ∧ DqAll K B us ds ∧
  ∀ l vs B' H' es, Stp B H B' H' → H l = none → B' l = none → H' l = some (.lst vs) → DqAll K B' vs es → Post fs ds es → Q (.ref l) H'
theorem ep_meth {i : Nat} {m : Str} {ta : TA} {Pre : FsD → List D → Prop} {Post : FsD → List D → D → Prop} {X : XK} (e : δ[i]? = some (.ob C fs)) (h : EA K ta δ ds) (r : Pre fs ds) (hm : m ∉ fs.map (·.1)) : EP K (tMeth C m (spR K C Pre Post) [] X (tVar i) ta) δ (Post fs ds) := fun B0 H0 B H σ Q S q => by
  obtain ⟨p, dx, ws, a, hp, fw, hf⟩ := S.slotOb e
  refine ⟨_, a, p, dx, ws, rfl, hp, Few.none fw hm, h B0 H0 B H σ _ S fun vs B1 H1 s1 dv => ?_⟩
  exact ⟨B1, p, dx, ws, fs, vs, ds, by rw [List.append_nil], r, s1.bh, s1.hh.at hp, fw, hf.up s1.bb, dv, fun v B' H' d s2 b pd => q v B' H' d (s1.trans s2) b pd⟩
theorem ed_meth {i : Nat} {m : Str} {ta : TA} {Pre : FsD → List D → Prop} {Post : FsD → List D → D → Prop} {X : XK} (e : δ[i]? = some (.ob C fs)) (h : EA K ta δ ds) (r : Pre fs ds) (hm : m ∉ fs.map (·.1)) (u : ∀ d', Post fs ds d' → d' = d) : ED K (tMeth C m (spR K C Pre Post) [] X (tVar i) ta) δ d := fun B0 H0 B H σ Q S q =>
  ep_meth e h r hm B0 H0 B H σ Q S fun v B' H' d' s b pd => by
    have := u d' pd
    subst this
    exact q v B' H' s b
theorem en_meth {i : Nat} {m : Str} {ta : TA} {Pre : FsD → List D → Prop} {Post : FsD → List D → List D → Prop} {X : XK} (e : δ[i]? = some (.ob C fs)) (h : EA K ta δ ds) (r : Pre fs ds) (hm : m ∉ fs.map (·.1)) (u : ∀ es', Post fs ds es' → es' = es) : EN K (tMeth C m (spRN K C Pre Post) [] X (tVar i) ta) δ es := fun B0 H0 B H σ Q S q => by
  obtain ⟨p, dx, ws, a, hp, fw, hf⟩ := S.slotOb e
  refine ⟨_, a, p, dx, ws, rfl, hp, Few.none fw hm, h B0 H0 B H σ _ S fun vs B1 H1 s1 dv => ?_⟩
  refine ⟨B1, p, dx, ws, fs, vs, ds, by rw [List.append_nil], r, s1.bh, s1.hh.at hp, fw, hf.up s1.bb, dv, fun l us B' H' es' s2 nl bl hl b pd => ?_⟩
  have := u es' pd
  subst this
  exact q l us B' H' (s1.trans s2) (s1.hh.free nl) bl hl b
end
/-- the start of a method: its object, then the data -/
def startR (N : List Str) (C : Addr) (fs : FsD) (ds : List D) : List SV := .ob C fs :: (ds.map .val ++ List.replicate (N.length - 1 - ds.length) .no)
section
variable {P : Program} {w : World} {K : PySem.W.Frag} {mg : Str → Option Value} {base : Heap} {C : Addr}
theorem start_sdR {N : List Str} {p dx : Addr} {ws : List (Str × V)} {fs : FsD} {us : List V} {ds : List D} {B H : Hp} (hN : 1 + ds.length ≤ N.length) (bh : Bh B H) (hp : H p = some (.ins C dx ws)) (fw : Few ws fs) (hf : FldOk K B ws fs) (h : DqAll K B us ds) :
    Sd K B H B H (L2.start N (.ref p :: us)) (startR N C fs ds) := by
  have hl := h.len
  have S0 := start_sd (N := N.tail) bh h
  have e1 : L2.start N (.ref p :: us) = some (.ref p) :: L2.start N.tail us := by
    unfold L2.start
    rw [List.map_cons, List.cons_append, List.length_cons, List.length_tail]
    congr 2
    congr 1
    omega
  have e2 : startR N C fs ds = .ob C fs :: startD N.tail ds := by
    unfold startR startD
    rw [List.length_tail]
  rw [e1, e2]
  refine ⟨S0.hist, by rw [List.length_cons, List.length_cons, S0.len], fun i s e => ?_, fun i j s t o q n a b c d z mz mt => ?_⟩
  · cases i with
    | zero =>
      have e : SV.ob C fs = s := Option.some.inj e
      subst e
      exact ⟨_, rfl, p, dx, ws, rfl, hp, fw, hf⟩
    | succ i => exact S0.ok i s e
  · have away : ∀ (k : Nat) (s : SV) (o : Option V), (startD N.tail ds)[k]? = some s → foot s o = [] := fun k s o e => by
      unfold startD at e
      have hm := List.mem_of_getElem? e
      rcases List.mem_append.mp hm with h | h
      · obtain ⟨y, _, rfl⟩ := List.mem_map.mp h; rfl
      · rw [(List.mem_replicate.mp h).2]; rfl
    cases i with
    | zero =>
      cases j with
      | zero => exact n rfl
      | succ j => rw [away j t q b] at mt; cases mt
    | succ i => rw [away i s o a] at mz; cases mz
theorem ok_wpR {x qual : Str} {st : Stmt} {f : Addr} {fd : FuncData} {N ps : List Str} {k : Nat} {Pre : FsD → List D → Prop} {Post : FsD → List D → D → Prop} (F : Fun K x qual st f fd) (S : FnScope N ps (defScope st)) (hN : ps.length ≤ N.length) (len : ∀ fs ds, Pre fs ds → 1 + ds.length = ps.length)
    (hb : ∀ (cdv : Value), fd.code = cdv → ∀ (A : Around) (outer : List Env) (s : Shared) (H : Hp) (E : XK), Room k (A.deeper (PyProof.Rows.envOfC qual (defScope st) s.heap.objs.size f cdv)) →
      ∃ t, PSs (cxOf CX0 P w K mg base N qual (defScope st) f cdv A outer s H E).nox (defBody st) t ∧ ∀ fs ds, Pre fs ds → WP K t { nx := fun _ => Post fs ds .none, rt := fun d' => Post fs ds d' } (startR N C fs ds)) : FnOk P w K mg base CX0 (k + 1) f fd ps (spR K C Pre Post) := by
  refine F.okC S (fun vs H Q E h => ?_) (fun cdv hcv A outer s H vs Q E hr h => ?_)
  · obtain ⟨B, p, dx, ws, fs, us, ds, rfl, r, bh, hp, fw, hf, a, _⟩ := h
    rw [List.length_cons, a.len, ← len fs ds r]; omega
  · obtain ⟨t, ht, q⟩ := hb cdv hcv A outer s H E hr
    refine ⟨t, ht, ?_⟩
    obtain ⟨B, p, dx, ws, fs, us, ds, rfl, r, bh, hp, fw, hf, a, hq⟩ := h
    refine q fs ds r B H B H _ _ ⟨fun σ' H' B' δ' S' e => ?_, fun v B' H' d' hh dv e => ?_, fun _ _ _ _ _ z => z.elim, fun _ _ _ _ _ z => z.elim, fun _ _ _ _ _ _ _ _ _ _ z => z.elim, fun _ _ _ _ _ _ _ _ z => z.elim⟩ (start_sdR (by have := len fs ds r; omega) bh hp fw hf a)
    · exact hq _ B' H' _ ⟨S'.hist.bb, S'.hist.bh, S'.hist.hh, S'.hist.fr⟩ .non e
    · exact hq v B' H' _ ⟨hh.bb, hh.bh, hh.hh, hh.fr⟩ dv e
theorem ok_wpRN {x qual : Str} {st : Stmt} {f : Addr} {fd : FuncData} {N ps : List Str} {k : Nat} {Pre : FsD → List D → Prop} {Post : FsD → List D → List D → Prop} (F : Fun K x qual st f fd) (S : FnScope N ps (defScope st)) (hN : ps.length ≤ N.length) (len : ∀ fs ds, Pre fs ds → 1 + ds.length = ps.length)
    (hb : ∀ (cdv : Value), fd.code = cdv → ∀ (A : Around) (outer : List Env) (s : Shared) (H : Hp) (E : XK), Room k (A.deeper (PyProof.Rows.envOfC qual (defScope st) s.heap.objs.size f cdv)) →
      ∃ t, PSs (cxOf CX0 P w K mg base N qual (defScope st) f cdv A outer s H E).nox (defBody st) t ∧ ∀ fs ds, Pre fs ds → WP K t { nx := fun _ => False, rt := fun _ => False, rn := fun es => Post fs ds es } (startR N C fs ds)) : FnOk P w K mg base CX0 (k + 1) f fd ps (spRN K C Pre Post) := by
  refine F.okC S (fun vs H Q E h => ?_) (fun cdv hcv A outer s H vs Q E hr h => ?_)
  · obtain ⟨B, p, dx, ws, fs, us, ds, rfl, r, bh, hp, fw, hf, a, _⟩ := h
    rw [List.length_cons, a.len, ← len fs ds r]; omega
  · obtain ⟨t, ht, q⟩ := hb cdv hcv A outer s H E hr
    refine ⟨t, ht, ?_⟩
    obtain ⟨B, p, dx, ws, fs, us, ds, rfl, r, bh, hp, fw, hf, a, hq⟩ := h
    refine q fs ds r B H B H _ _ ⟨fun _ _ _ _ _ z => z.elim, fun _ _ _ _ _ _ z => z.elim, fun _ _ _ _ _ z => z.elim, fun _ _ _ _ _ z => z.elim, fun l vs B' H' ds' hh n0 nb hp da e => ?_, fun _ _ _ _ _ _ _ _ z => z.elim⟩ (start_sdR (by have := len fs ds r; omega) bh hp fw hf a)
    exact hq l vs B' H' ds' ⟨hh.bb, hh.bh, hh.hh, hh.fr⟩ n0 nb hp da e
end
end DX

namespace DX
open PySem L2
variable [TabEnv]
/-! ### objects that change -/
inductive FD where
  | s (d : D)
  | l (ds : List D)
  | ll (dss : List (List D))
  | la (bs : List Addr) (dss : List (List D))
  | m (es : List (D × D))
abbrev FM := List (Str × FD)
inductive LRep (K : PySem.W.Frag) (B H : Hp) : List Addr → List (List D) → Prop
  | nil : LRep K B H [] []
  | cons {b : Addr} {bs : List Addr} {vs : List V} {ds : List D} {dss : List (List D)} : H b = some (.lst vs) → DqAll K B vs ds → LRep K B H bs dss → LRep K B H (b :: bs) (ds :: dss)
def FRep (K : PySem.W.Frag) (B H : Hp) : FD → V → List Addr → Prop
  | .s d, v, as => as = [] ∧ Dq K B v d
  | .l ds, v, as => ∃ a vs, v = .ref a ∧ as = [a] ∧ H a = some (.lst vs) ∧ DqAll K B vs ds
  | .ll dss, v, as => ∃ a bs, v = .ref a ∧ as = a :: bs ∧ H a = some (.lst (bs.map V.ref)) ∧ LRep K B H bs dss
  | .la bs dss, v, as => ∃ a, v = .ref a ∧ as = a :: bs ∧ H a = some (.lst (bs.map V.ref)) ∧ LRep K B H bs dss
  | .m es, v, as => ∃ a kvs, v = .ref a ∧ as = [a] ∧ H a = some (.dK kvs) ∧ DqKv K B kvs es
inductive FsRep (K : PySem.W.Frag) (B H : Hp) : FM → List (Str × V) → List Addr → Prop
  | nil : FsRep K B H [] [] []
  | cons {f : Str} {x : FD} {v : V} {as : List Addr} {fs : FM} {ws : List (Str × V)} {F : List Addr} : FRep K B H x v as → FsRep K B H fs ws F → FsRep K B H ((f, x) :: fs) ((f, v) :: ws) (as ++ F)
def BigR (K : PySem.W.Frag) (C p : Addr) (fs : FM) (F : List Addr) (B H : Hp) (v : V) : Prop := v = .ref p ∧ ∃ dx ws G, H p = some (.ins C dx ws) ∧ FsRep K B H fs ws G ∧ F = p :: G ∧ F.Nodup
abbrev hold (K : PySem.W.Frag) (C p : Addr) (fs : FM) (F : List Addr) : SV := .big (BigR K C p fs F) F
def fget (f : Str) : FM → Option FD
  | [] => none
  | (g, x) :: r => if g = f then some x else fget f r
def putD (f : Str) (x : FD) : FM → FM
  | [] => [(f, x)]
  | (g, y) :: r => if g = f then (g, x) :: r else (g, y) :: putD f x r
section
variable {K : PySem.W.Frag} {B H B' H' : Hp} {f : Str} {x x' : FD} {v v' : V} {as as' bs F G : List Addr} {fs : FM} {ws : List (Str × V)} {ds : List D} {dss : List (List D)}
theorem dqall_lift (hd : ∀ w d, Dq K B w d → Dq K B' w d) : ∀ {ds : List D} {vs : List V}, DqAll K B vs ds → DqAll K B' vs ds
  | [], _, h => by cases h; exact .nil
  | d :: ds, _, h => by
    cases h with
    | cons a b => exact .cons (hd _ _ a) (dqall_lift hd b)
theorem dqkv_lift (hd : ∀ w d, Dq K B w d → Dq K B' w d) : ∀ {ds : List (D × D)} {vs : List (Key × V)}, DqKv K B vs ds → DqKv K B' vs ds
  | [], _, h => by cases h; exact .nil
  | d :: ds, _, h => by
    cases h with
    | cons a b c => exact .cons (hd _ _ a) (hd _ _ b) (dqkv_lift hd c)
theorem LRep.step (hd : ∀ w d, Dq K B w d → Dq K B' w d) (h : LRep K B H bs dss) : (∀ a ∈ bs, ∀ o, H a = some o → NT o → H' a = some o) → LRep K B' H' bs dss := by
  induction h with
  | nil => exact fun _ => .nil
  | cons e q _ ih => exact fun hh => .cons (hh _ (List.mem_cons_self ..) _ e (fun _ z => nomatch z)) (dqall_lift hd q) (ih fun a ma => hh a (List.mem_cons_of_mem _ ma))
theorem FRep.step (hd : ∀ w d, Dq K B w d → Dq K B' w d) (h : FRep K B H x v as) (hh : ∀ a ∈ as, ∀ o, H a = some o → NT o → H' a = some o) : FRep K B' H' x v as := by
  cases x with
  | s d => exact ⟨h.1, hd _ _ h.2⟩
  | l ds =>
    obtain ⟨a, vs, rfl, rfl, e, q⟩ := h
    exact ⟨a, vs, rfl, rfl, hh a (List.mem_cons_self ..) _ e (fun _ z => nomatch z), dqall_lift hd q⟩
  | ll dss =>
    obtain ⟨a, bs, rfl, rfl, e, q⟩ := h
    exact ⟨a, bs, rfl, rfl, hh a (List.mem_cons_self ..) _ e (fun _ z => nomatch z), q.step hd fun b mb => hh b (List.mem_cons_of_mem _ mb)⟩
  | la bs dss =>
    obtain ⟨a, rfl, rfl, e, q⟩ := h
    exact ⟨a, rfl, rfl, hh a (List.mem_cons_self ..) _ e (fun _ z => nomatch z), q.step hd fun b mb => hh b (List.mem_cons_of_mem _ mb)⟩
  | m es =>
    obtain ⟨a, vs, rfl, rfl, e, q⟩ := h
    exact ⟨a, vs, rfl, rfl, hh a (List.mem_cons_self ..) _ e (fun _ z => nomatch z), dqkv_lift hd q⟩
theorem FsRep.step (hd : ∀ w d, Dq K B w d → Dq K B' w d) (h : FsRep K B H fs ws F) : (∀ a ∈ F, ∀ o, H a = some o → NT o → H' a = some o) → FsRep K B' H' fs ws F := by
  induction h with
  | nil => exact fun _ => .nil
  | cons q _ ih => exact fun hh => .cons (q.step hd fun a ma => hh a (List.mem_append_left _ ma)) (ih fun a ma => hh a (List.mem_append_right _ ma))
theorem LRep.some (h : LRep K B H bs dss) : ∀ a ∈ bs, ∃ vs, H a = some (.lst vs) := by
  induction h with
  | nil => exact fun a ma => by cases ma
  | cons e q _ ih =>
    intro a ma
    rcases List.mem_cons.mp ma with rfl | ma
    · exact ⟨_, e⟩
    · exact ih a ma
theorem FRep.some (h : FRep K B H x v as) : ∀ a ∈ as, H a ≠ none := by
  intro a ma
  cases x with
  | s d => rw [h.1] at ma; cases ma
  | l ds =>
    obtain ⟨b, vs, rfl, rfl, e, q⟩ := h
    rw [List.mem_singleton.mp ma, e]; exact fun z => nomatch z
  | ll dss =>
    obtain ⟨b, bs, rfl, rfl, e, q⟩ := h
    rcases List.mem_cons.mp ma with rfl | ma
    · rw [e]; exact fun z => nomatch z
    · obtain ⟨vs, e⟩ := q.some a ma
      rw [e]; exact fun z => nomatch z
  | la bs dss =>
    obtain ⟨b, rfl, rfl, e, q⟩ := h
    rcases List.mem_cons.mp ma with rfl | ma
    · rw [e]; exact fun z => nomatch z
    · obtain ⟨vs, e⟩ := q.some a ma
      rw [e]; exact fun z => nomatch z
  | m es =>
    obtain ⟨b, vs, rfl, rfl, e, q⟩ := h
    rw [List.mem_singleton.mp ma, e]; exact fun z => nomatch z
theorem FsRep.some (h : FsRep K B H fs ws F) : ∀ a ∈ F, H a ≠ none := by
  induction h with
  | nil => exact fun a ma => by cases ma
  | cons q _ ih => exact fun a ma => (List.mem_append.mp ma).elim (q.some a) (ih a)
theorem BigR.some {C p : Addr} (h : BigR K C p fs F B H v) : ∀ a ∈ F, H a ≠ none := by
  obtain ⟨rfl, dx, ws, G, hp, r, rfl, nd⟩ := h
  intro a ma
  rcases List.mem_cons.mp ma with rfl | ma
  · rw [hp]; exact fun z => nomatch z
  · exact r.some a ma
theorem FRep.plain (h : FRep K B H x v as) : ∀ a ∈ as, ∃ o, H a = Option.some o ∧ NT o ∧ ∀ φ, o ≠ .ext φ := by
  intro a ma
  cases x with
  | s d => rw [h.1] at ma; cases ma
  | l ds =>
    obtain ⟨b, vs, rfl, rfl, e, q⟩ := h
    rw [List.mem_singleton.mp ma]
    exact ⟨_, e, (fun _ z => nomatch z), (fun _ z => nomatch z)⟩
  | ll dss =>
    obtain ⟨b, bs, rfl, rfl, e, q⟩ := h
    rcases List.mem_cons.mp ma with rfl | ma
    · exact ⟨_, e, (fun _ z => nomatch z), (fun _ z => nomatch z)⟩
    · obtain ⟨vs, e⟩ := q.some a ma
      exact ⟨_, e, (fun _ z => nomatch z), (fun _ z => nomatch z)⟩
  | la bs dss =>
    obtain ⟨b, rfl, rfl, e, q⟩ := h
    rcases List.mem_cons.mp ma with rfl | ma
    · exact ⟨_, e, (fun _ z => nomatch z), (fun _ z => nomatch z)⟩
    · obtain ⟨vs, e⟩ := q.some a ma
      exact ⟨_, e, (fun _ z => nomatch z), (fun _ z => nomatch z)⟩
  | m es =>
    obtain ⟨b, vs, rfl, rfl, e, q⟩ := h
    rw [List.mem_singleton.mp ma]
    exact ⟨_, e, (fun _ z => nomatch z), (fun _ z => nomatch z)⟩
theorem FsRep.plain (h : FsRep K B H fs ws F) : ∀ a ∈ F, ∃ o, H a = Option.some o ∧ NT o ∧ ∀ φ, o ≠ .ext φ := by
  induction h with
  | nil => exact fun a ma => by cases ma
  | cons q _ ih => exact fun a ma => (List.mem_append.mp ma).elim (q.plain a) (ih a)
theorem BigR.plain {C p : Addr} (h : BigR K C p fs F B H v) : ∀ a ∈ F, ∃ o, H a = Option.some o ∧ NT o ∧ ∀ φ, o ≠ .ext φ := by
  obtain ⟨rfl, dx, ws, G, hp, r, rfl, nd⟩ := h
  intro a ma
  rcases List.mem_cons.mp ma with rfl | ma
  · exact ⟨_, hp, (fun _ z => nomatch z), (fun _ z => nomatch z)⟩
  · exact r.plain a ma
theorem BigR.stab {C p : Addr} : Stab K (BigR K C p fs F) F := fun B H B' H' v h hd hh => by
  obtain ⟨rfl, dx, ws, G, hp, r, rfl, nd⟩ := h
  exact ⟨rfl, dx, ws, G, hh p (List.mem_cons_self ..) _ hp (fun _ z => nomatch z), r.step hd fun a ma => hh a (List.mem_cons_of_mem _ ma), rfl, nd⟩
theorem lookup_hit {g : Str} {w : V} (e : g = f) : List.lookup f ((g, w) :: ws) = Option.some w := by
  subst e
  simp [List.lookup]
theorem lookup_miss {g : Str} {w : V} (e : ¬ g = f) : List.lookup f ((g, w) :: ws) = List.lookup f ws := by
  have hb : (f == g) = false := beq_eq_false_iff_ne.mpr fun z => e z.symm
  simp only [List.lookup, hb]
theorem FsRep.get (h : FsRep K B H fs ws F) : fget f fs = Option.some x → F.Nodup → ∃ v as, ws.lookup f = Option.some v ∧ FRep K B H x v as ∧ (∀ a ∈ as, a ∈ F) ∧ as.Nodup ∧
    ∀ (x' : FD) (B' H' : Hp), (∀ w d, Dq K B w d → Dq K B' w d) → (∀ a ∈ F, a ∉ as → ∀ o, H a = Option.some o → NT o → H' a = Option.some o) → FRep K B' H' x' v as → FsRep K B' H' (putD f x' fs) ws F := by
  induction h with
  | nil => exact fun e => by cases e
  | @cons g y u as0 fs ws G r t ih =>
    intro e nd
    obtain ⟨n1, n2, n3⟩ := List.nodup_append.mp nd
    unfold fget at e
    by_cases hg : g = f
    · rw [if_pos hg] at e
      cases e
      refine ⟨u, as0, lookup_hit hg, r, fun a ma => List.mem_append_left _ ma, n1, fun x' B' H' hd hh r' => ?_⟩
      unfold putD
      rw [if_pos hg]
      exact .cons r' (t.step hd fun a ma => hh a (List.mem_append_right _ ma) fun z => n3 a z a ma rfl)
    · rw [if_neg hg] at e
      obtain ⟨v, as, hl, hr, hs, hn, hput⟩ := ih e n2
      refine ⟨v, as, (lookup_miss hg).trans hl, hr, fun a ma => List.mem_append_right _ (hs a ma), hn, fun x' B' H' hd hh r' => ?_⟩
      unfold putD
      rw [if_neg hg]
      exact .cons (r.step hd fun a ma => hh a (List.mem_append_left _ ma) fun z => n3 a ma a (hs a z) rfl) (hput x' B' H' hd (fun a ma mz => hh a (List.mem_append_right _ ma) mz) r')
theorem FsRep.store (r : FRep K B H x' v' as') (h : FsRep K B H fs ws F) : ∃ F', FsRep K B H (putD f x' fs) (putF f v' ws) F' ∧ (∀ a ∈ F', a ∈ F ∨ a ∈ as') ∧ (F.Nodup → as'.Nodup → (∀ a ∈ as', a ∉ F) → F'.Nodup) := by
  induction h with
  | nil =>
    exact ⟨as' ++ [], .cons r .nil, fun a ma => .inr (by simpa using ma), fun _ h _ => by simpa using h⟩
  | @cons g y u as0 fs ws G r0 t ih =>
    unfold putD putF
    by_cases hg : g = f
    · rw [if_pos hg, if_pos hg]
      refine ⟨as' ++ G, .cons r t, fun a ma => ?_, fun nd n' ne => ?_⟩
      · rcases List.mem_append.mp ma with z | z
        · exact .inr z
        · exact .inl (List.mem_append_right _ z)
      · obtain ⟨n1, n2, n3⟩ := List.nodup_append.mp nd
        exact List.nodup_append.mpr ⟨n', n2, fun a ma b mb e => ne a ma (List.mem_append_right _ (e ▸ mb))⟩
    · rw [if_neg hg, if_neg hg]
      obtain ⟨F', h1, h2, h3⟩ := ih
      refine ⟨as0 ++ F', .cons r0 h1, fun a ma => ?_, fun nd n' ne => ?_⟩
      · rcases List.mem_append.mp ma with z | z
        · exact .inl (List.mem_append_left _ z)
        · rcases h2 a z with z | z
          · exact .inl (List.mem_append_right _ z)
          · exact .inr z
      · obtain ⟨n1, n2, n3⟩ := List.nodup_append.mp nd
        refine List.nodup_append.mpr ⟨n1, h3 n2 n' fun a ma z => ne a ma (List.mem_append_right _ z), fun a ma b mb e => ?_⟩
        rcases h2 b mb with z | z
        · exact n3 a ma b z e
        · exact ne b z (List.mem_append_left _ (e ▸ ma))
theorem FsRep.len (h : FsRep K B H fs ws F) : ws.length = fs.length := by
  induction h with
  | nil => rfl
  | cons _ _ ih => rw [List.length_cons, List.length_cons, ih]
theorem FsRep.none (h : FsRep K B H fs ws F) : fget f fs = Option.none → ws.lookup f = Option.none := by
  induction h with
  | nil => exact fun _ => rfl
  | @cons g y u as0 fs ws G r t ih =>
    intro e
    unfold fget at e
    by_cases hg : g = f
    · rw [if_pos hg] at e; cases e
    · rw [if_neg hg] at e
      exact (lookup_miss hg).trans (ih e)
theorem LRep.len (h : LRep K B H bs dss) : bs.length = dss.length := by
  induction h with
  | nil => rfl
  | cons _ _ _ ih => rw [List.length_cons, List.length_cons, ih]
theorem LRep.get (h : LRep K B H bs dss) : ∀ {k : Nat} {ds : List D}, bs.Nodup → dss[k]? = Option.some ds → ∃ b vs, bs[k]? = Option.some b ∧ H b = Option.some (.lst vs) ∧ DqAll K B vs ds ∧
    ∀ vs' ds', DqAll K B vs' ds' → LRep K B (upd H b (.lst vs')) bs (dss.set k ds') := by
  induction h with
  | nil => intro k ds _ e; cases k <;> cases e
  | @cons b bs vs ds0 dss e q t ih =>
    intro k ds nd ek
    obtain ⟨n1, n2⟩ := List.nodup_cons.mp nd
    cases k with
    | zero =>
      cases ek
      exact ⟨b, vs, rfl, e, q, fun vs' ds' q' => .cons upd_same q' (t.step (fun _ _ z => z) fun a ma o e _ => (upd_ne (fun z => n1 (z ▸ ma) : a ≠ b)).trans e)⟩
    | succ k =>
      obtain ⟨b', vs', h1, h2, h3, h4⟩ := ih n2 (k := k) ek
      refine ⟨b', vs', h1, h2, h3, fun us es q' => .cons ?_ q (h4 us es q')⟩
      have hm := List.mem_of_getElem? h1
      rw [upd_ne (fun z => n1 (z ▸ hm) : b ≠ b')]; exact e
end
/-- a step that leaves what is not at F -/
structure Stm (F : List Addr) (B H B' H' : Hp) : Prop where
  bb : Sam B B'
  bh : Bh B' H'
  hh : ∀ a o, H a = some o → a ∉ F → ∃ o', H' a = some o' ∧ (NT o → o' = o)
  fr : ∀ a, H a ≠ none → a ∉ F → B a = none → B' a = none
theorem Stm.at {F : List Addr} {B H B' H' : Hp} (s : Stm F B H B' H') {a : Addr} {o : HO} (e : H a = some o) (n : a ∉ F) (t : NT o := by exact fun _ z => nomatch z) : H' a = some o := by
  obtain ⟨o', h1, h2⟩ := s.hh a o e n
  rw [h1, h2 t]
theorem Stm.stays {F : List Addr} {B H B' H' : Hp} (s : Stm F B H B' H') {a : Addr} (e : H a ≠ none) (n : a ∉ F) : H' a ≠ none := by
  cases q : H a with
  | none => exact absurd q e
  | some o =>
    obtain ⟨o', h1, h2⟩ := s.hh a o q n
    rw [h1]; exact fun z => nomatch z
section
variable {K : PySem.W.Frag} {B0 H0 B H B' H' : Hp} {σ : L2.St} {δ δ' : List SV} {ta tb te : TE} {c : TT} {t u : TS} {d x y : D} {ds es : List D} {E : EndsD} {C p : Addr} {fs fs' : FM} {F F' : List Addr} {i : Nat} {f m : Str}
theorem Sd.bigTo {R R' : Hp → Hp → V → Prop} (S : Sd K B0 H0 B H σ δ) (e : δ[i]? = some (.big R F)) (s : Stm F B H B' H')
    (hF : ∀ a ∈ F', H' a ≠ none ∧ B' a = none ∧ H0 a = none ∧ (a ∈ F ∨ ∀ j t q, i ≠ j → δ[j]? = some t → σ[j]? = some q → a ∉ foot t q)) (hR : ∀ v, σ[i]? = some (some v) → R' B' H' v) (st : Stab K R' F') : Sd K B0 H0 B' H' σ (δ.set i (.big R' F')) := by
  obtain ⟨oi, ei, vi, ev, ri, sti, hai⟩ := S.ok i _ e
  have out : ∀ a, H0 a ≠ none → a ∉ F := fun a q z => q (hai a z).2.2
  have away : ∀ j t q, i ≠ j → δ[j]? = some t → σ[j]? = some q → ∀ a ∈ foot t q, a ∉ F := fun j t q n e1 e2 a ma => S.apart j i _ _ _ _ (Ne.symm n) e1 e e2 ei a ma
  refine ⟨⟨S.hist.bb.trans s.bb, s.bh, fun a o ea => by
      obtain ⟨o1, h1, h2⟩ := S.hist.hh _ _ ea
      obtain ⟨o2, h3, h4⟩ := s.hh a o1 h1 (out a (by rw [ea]; exact fun z => nomatch z))
      exact ⟨o2, h3, fun z => by have e1 := h2 z; subst e1; exact h4 z⟩, fun a q z => s.fr a (ne_none_of S.hist.hh q) (out a q) (S.hist.fr a q z)⟩,
    by rw [List.length_set]; exact S.len, fun j t ej => ?_, fun j k t u o q n e1 e2 e3 e4 a ma mb => ?_⟩
  · rcases get_set ej with ⟨rfl, rfl⟩ | ⟨hne, ej⟩
    · exact ⟨_, ei, vi, ev, hR vi (by rw [ei, ev]), st, fun a ma => ⟨(hF a ma).1, (hF a ma).2.1, (hF a ma).2.2.1⟩⟩
    · obtain ⟨o, eo, ok⟩ := S.ok j t ej
      have aw := away j t o hne ej eo
      refine ⟨o, eo, ?_⟩
      cases t with
      | no => exact True.intro
      | val d => obtain ⟨v, e1, q⟩ := ok; exact ⟨v, e1, Dq.up s.bb _ _ q⟩
      | ob C fs =>
        obtain ⟨pp, dx, ws, rfl, hp, hn, hf⟩ := ok
        exact ⟨pp, dx, ws, rfl, s.at hp (aw pp (List.mem_singleton.mpr rfl)), hn, hf.up s.bb⟩
      | own xo =>
        obtain ⟨pp, vs, rfl, hp, bp, h0, q⟩ := ok
        have hpF := aw pp (List.mem_singleton.mpr rfl)
        exact ⟨pp, vs, rfl, s.at hp hpF (rep_nt q), s.fr pp (by rw [hp]; exact fun z => nomatch z) hpF bp, h0, q.up s.bb⟩
      | big R2 F2 =>
        obtain ⟨v, rfl, r, st2, ha⟩ := ok
        refine ⟨v, rfl, st2 B H B' H' v r (fun w d => Dq.up s.bb d w) (fun a ma o eo nt => s.at eo (aw a ma) nt), st2, fun a ma => ?_⟩
        obtain ⟨h1, h2, h3⟩ := ha a ma
        exact ⟨s.stays h1 (aw a ma), s.fr a h1 (aw a ma) h2, h3⟩
  · rcases get_set e1 with ⟨rfl, rfl⟩ | ⟨z, b⟩
    · rcases get_set e2 with ⟨z', _⟩ | ⟨z', b'⟩
      · exact n z'
      · rcases (hF a ma).2.2.2 with h | h
        · exact away k u q z' b' e4 a mb h
        · exact h k u q z' b' e4 mb
    · rcases get_set e2 with ⟨rfl, rfl⟩ | ⟨z', b'⟩
      · rcases (hF a mb).2.2.2 with h | h
        · exact away j t o z b e3 a ma h
        · exact h j t o z b e3 ma
      · exact S.apart j k t u o q n b b' e3 e4 a ma mb
theorem Sd.slotBig (S : Sd K B0 H0 B H σ δ) (e : δ[i]? = some (hold K C p fs F)) : ∃ dx ws G, σ[i]? = some (some (.ref p)) ∧ H p = some (.ins C dx ws) ∧ FsRep K B H fs ws G ∧ F = p :: G ∧ F.Nodup ∧ ∀ a ∈ F, H a ≠ none ∧ B a = none ∧ H0 a = none := by
  obtain ⟨o, eo, v, rfl, ⟨rfl, dx, ws, G, hp, r, rfl, nd⟩, st, ha⟩ := S.ok i _ e
  exact ⟨dx, ws, G, eo, hp, r, rfl, nd, ha⟩
/-- one address of it is written -/
theorem Sd.bigUpd {a : Addr} {u : HO} (S : Sd K B0 H0 B H σ δ) (e : δ[i]? = some (hold K C p fs F)) (ha : a ∈ F) (hu : NT u) (hR : BigR K C p fs' F B (upd H a u) (.ref p)) : Sd K B0 H0 B (upd H a u) σ (δ.set i (hold K C p fs' F)) := by
  obtain ⟨dx, ws, G, a1, hp, r, eF, nd, hF⟩ := S.slotBig e
  have hb : B a = none := (hF a ha).2.1
  have pl := BigR.plain (v := .ref p) ⟨rfl, dx, ws, G, hp, r, eF, nd⟩ a ha
  refine S.bigTo e ⟨Sam.refl _, ⟨fun b o eb => ?_, S.hist.bh.tb.upd (.inr pl) hu⟩, fun b o eb nb => ?_, fun b _ _ z => z⟩ (fun b mb => ⟨?_, (hF b mb).2.1, (hF b mb).2.2, .inl mb⟩) (fun v ev => ?_) BigR.stab
  · have : b ≠ a := fun z => by subst z; rw [hb] at eb; cases eb
    rw [upd_ne this]; exact S.hist.bh.sm _ _ eb
  · have : b ≠ a := fun z => nb (z ▸ ha)
    exact ⟨o, (upd_ne this).trans eb, fun _ => rfl⟩
  · by_cases z : b = a
    · rw [z, upd_same]; exact fun z => nomatch z
    · rw [upd_ne z]; exact (hF b mb).1
  · rw [a1] at ev; cases ev; exact hR
theorem Sd.bigL (S : Sd K B0 H0 B H σ δ) (e : δ[i]? = some (hold K C p fs F)) (l : fget f fs = some (.l ds)) : ∃ dx ws a vs, σ[i]? = some (some (.ref p)) ∧ H p = some (.ins C dx ws) ∧ ws.lookup f = some (.ref a) ∧ H a = some (.lst vs) ∧ DqAll K B vs ds ∧
    ∀ vs' ds', DqAll K B vs' ds' → Sd K B0 H0 B (upd H a (.lst vs')) σ (δ.set i (hold K C p (putD f (.l ds') fs) F)) := by
  obtain ⟨dx, ws, G, a1, hp, r, rfl, nd, hF⟩ := S.slotBig e
  obtain ⟨n1, n2⟩ := List.nodup_cons.mp nd
  obtain ⟨v, as, hl, ⟨a, vs, rfl, rfl, ha, q⟩, hs, hn, hput⟩ := r.get l n2
  have hm := hs a (List.mem_singleton.mpr rfl)
  refine ⟨dx, ws, a, vs, a1, hp, hl, ha, q, fun vs' ds' q' => S.bigUpd e (List.mem_cons_of_mem _ hm) (fun _ z => nomatch z) ⟨rfl, dx, ws, G, ?_, ?_, rfl, nd⟩⟩
  · rw [upd_ne (fun z => n1 (z ▸ hm) : p ≠ a)]; exact hp
  · exact hput (.l ds') B _ (fun _ _ z => z) (fun b mb nb o eo _ => (upd_ne (fun z => nb (List.mem_singleton.mpr z) : b ≠ a)).trans eo) ⟨a, vs', rfl, rfl, upd_same, q'⟩
theorem Sd.bigLL {k : Nat} {dss : List (List D)} (S : Sd K B0 H0 B H σ δ) (e : δ[i]? = some (hold K C p fs F)) (l : fget f fs = some (.ll dss)) (hk : dss[k]? = some ds) :
    ∃ (dx : Addr) (ws : List (Str × V)) (a : Addr) (bs : List Addr) (b : Addr) (vs : List V), σ[i]? = some (some (.ref p)) ∧ H p = some (.ins C dx ws) ∧ ws.lookup f = some (.ref a) ∧ H a = some (.lst (bs.map V.ref)) ∧ bs.length = dss.length ∧ bs[k]? = some b ∧ H b = some (.lst vs) ∧ DqAll K B vs ds ∧
    ∀ vs' ds', DqAll K B vs' ds' → Sd K B0 H0 B (upd H b (.lst vs')) σ (δ.set i (hold K C p (putD f (.ll (dss.set k ds')) fs) F)) := by
  obtain ⟨dx, ws, G, a1, hp, r, rfl, nd, hF⟩ := S.slotBig e
  obtain ⟨n1, n2⟩ := List.nodup_cons.mp nd
  obtain ⟨v, as, hl, ⟨a, bs, rfl, rfl, ha, q⟩, hs, hn, hput⟩ := r.get l n2
  obtain ⟨m1, m2⟩ := List.nodup_cons.mp hn
  obtain ⟨b, vs, hb, hv, qv, hset⟩ := q.get m2 hk
  have mb := List.mem_of_getElem? hb
  have hm := hs b (List.mem_cons_of_mem _ mb)
  refine ⟨dx, ws, a, bs, b, vs, a1, hp, hl, ha, q.len, hb, hv, qv, fun vs' ds' q' => S.bigUpd e (List.mem_cons_of_mem _ hm) (fun _ z => nomatch z) ⟨rfl, dx, ws, G, ?_, ?_, rfl, nd⟩⟩
  · rw [upd_ne (fun z => n1 (z ▸ hm) : p ≠ b)]; exact hp
  · refine hput (.ll (dss.set k ds')) B _ (fun _ _ z => z) (fun c mc nc o eo _ => (upd_ne (fun z => nc (List.mem_cons_of_mem _ (z ▸ mb)) : c ≠ b)).trans eo) ⟨a, bs, rfl, rfl, ?_, hset vs' ds' q'⟩
    rw [upd_ne (fun z => m1 (z ▸ mb) : a ≠ b)]; exact ha
/-! ### reading it -/
theorem ed_bigFld (e : δ[i]? = some (hold K C p fs F)) (l : fget f fs = some (.s d)) (c : Cls K C) (n : NoAttr K C f) : ED K (tFld K (tVar i) f) δ d := fun B0 H0 B H σ Q S q => by
  obtain ⟨dx, ws, G, a1, hp, r, rfl, nd, hF⟩ := S.slotBig e
  obtain ⟨v, as, hl, ⟨_, dv⟩, _⟩ := r.get l (List.nodup_cons.mp nd).2
  exact ⟨_, a1, p, C, dx, ws, v, rfl, hp, c, n, hl, q v B H (.refl S.hist.bh) dv⟩
theorem ed_bigIx {k : Int} (e : δ[i]? = some (hold K C p fs F)) (l : fget f fs = some (.l ds)) (c : Cls K C) (n : NoAttr K C f) (hb : ED K tb δ (.int k)) (it : atI ds k = some d) : ED K (tOp (rIx K) (tFld K (tVar i) f) tb) δ d := fun B0 H0 B H σ Q S q => by
  obtain ⟨dx, ws, a, vs, a1, hp, hl, ha, dv, _⟩ := S.bigL e l
  refine ⟨_, a1, p, C, dx, ws, _, rfl, hp, c, n, hl, hb B0 H0 B H σ _ S fun w B2 H2 s2 y => ?_⟩
  cases Dq.int_inv y
  obtain ⟨dx2, ws2, a2, vs2, b1, hp2, hl2, ha2, dv2, _⟩ := (S.step s2).bigL e l
  rw [s2.hh.at hp] at hp2; cases hp2
  rw [hl] at hl2; cases hl2
  obtain ⟨v, e1, e2⟩ := atI_dp dv2 it
  exact .inl ⟨_, _, k, v, rfl, rfl, .inl (.inl ha2), e1, q v B2 H2 s2 e2⟩
/-! ### writing it -/
/-- o.f[k] = e -/
theorem wp_bigSet {k : Int} {j : Nat} (e : δ[i]? = some (hold K C p fs F)) (l : fget f fs = some (.l ds)) (c : Cls K C) (n : NoAttr K C f) (h : ED K te δ d) (hb : ED K tb δ (.int k)) (hj : ixN ds.length k = some j) (q : E.nx (δ.set i (hold K C p (putD f (.l (ds.set j d)) fs) F))) :
    WP K (tAsg te (gSub (tFld K (tVar i) f) tb L2.rSetL)) E δ := fun B0 H0 B H σ D L S =>
  h B0 H0 B H σ _ S fun v B1 H1 s1 dv => by
    have S1 := S.step s1
    obtain ⟨dx, ws, a, vs, a1, hp, hl, ha, dvs, _⟩ := S1.bigL e l
    refine ⟨_, a1, p, C, dx, ws, _, rfl, hp, c, n, hl, hb B0 H0 B1 H1 σ _ S1 fun w B2 H2 s2 y => ?_⟩
    cases Dq.int_inv y
    obtain ⟨dx2, ws2, a2, vs2, b1, hp2, hl2, ha2, dv2, hput⟩ := (S1.step s2).bigL e l
    rw [s2.hh.at hp] at hp2; cases hp2
    rw [hl] at hl2; cases hl2
    exact ⟨a, vs2, k, j, rfl, rfl, ha2, by rw [dv2.len]; exact hj, L.nx _ _ B2 _ (hput _ _ (dv2.set (Dq.up s2.bb _ _ dv) j)) q⟩
/-- o.f[k] op= e, ints -/
theorem wp_bigAug {k a0 b0 : Int} {j : Nat} {g : Int → Int → Int} (e : δ[i]? = some (hold K C p fs F)) (l : fget f fs = some (.l ds)) (c : Cls K C) (n : NoAttr K C f) (hb : ED K tb δ (.int k)) (hj : ixN ds.length k = some j) (hd : ds[j]? = some (.int a0)) (h : ED K te δ (.int b0))
    (q : E.nx (δ.set i (hold K C p (putD f (.l (ds.set j (.int (g a0 b0)))) fs) F))) : WP K (tAugS (tFld K (tVar i) f) tb te (rIxL K) (ipI g) L2.rSetL) E δ := fun B0 H0 B H σ D L S => by
  obtain ⟨dx, ws, a, vs, a1, hp, hl, ha, dvs, _⟩ := S.bigL e l
  refine ⟨_, a1, p, C, dx, ws, _, rfl, hp, c, n, hl, hb B0 H0 B H σ _ S fun w B2 H2 s2 y => ?_⟩
  cases Dq.int_inv y
  have S2 := S.step s2
  obtain ⟨dx2, ws2, a2, vs2, b1, hp2, hl2, ha2, dv2, _⟩ := S2.bigL e l
  rw [s2.hh.at hp] at hp2; cases hp2
  rw [hl] at hl2; cases hl2
  have it : atI ds k = some (.int a0) := by
    unfold atI
    rw [hj]; exact hd
  obtain ⟨v, e1, e2⟩ := atI_dp dv2 it
  cases Dq.int_inv e2
  refine ⟨_, _, k, _, rfl, rfl, .inl (.inl ha2), e1, h B0 H0 B2 H2 σ _ S2 fun w B3 H3 s3 y => ?_⟩
  cases Dq.int_inv y
  obtain ⟨dx3, ws3, a3, vs3, c1, hp3, hl3, ha3, dv3, hput⟩ := (S2.step s3).bigL e l
  rw [s3.hh.at (s2.hh.at hp)] at hp3; cases hp3
  rw [hl] at hl3; cases hl3
  exact ⟨a0, b0, rfl, rfl, a, vs3, k, j, rfl, rfl, ha3, by rw [dv3.len]; exact hj, L.nx _ _ B3 _ (hput _ _ (dv3.set (.int _) j)) q⟩
/-- the inner list -/
theorem bigIn {k : Int} {j : Nat} {dss : List (List D)} {Q : VK} (e : δ[i]? = some (hold K C p fs F)) (l : fget f fs = some (.ll dss)) (c : Cls K C) (n : NoAttr K C f) (hb : ED K tb δ (.int k)) (hj : ixN dss.length k = some j) (hk : dss[j]? = some ds) (S : Sd K B0 H0 B H σ δ)
    (q : ∀ b B' H', Stp B H B' H' → (∃ vs, H' b = some (.lst vs)) → (∀ B2 H2, Stp B' H' B2 H2 → ∃ vs, H2 b = some (.lst vs) ∧ DqAll K B2 vs ds ∧ ∀ vs' ds', DqAll K B2 vs' ds' → Sd K B0 H0 B2 (upd H2 b (.lst vs')) σ (δ.set i (hold K C p (putD f (.ll (dss.set j ds')) fs) F))) → Q (.ref b) H') :
    (tOp (rIx K) (tFld K (tVar i) f) tb) σ H Q := by
  obtain ⟨dx, ws, a, bs, b, vs, a1, hp, hl, ha, hbl, hbj, hbv, dvs, _⟩ := S.bigLL e l hk
  refine ⟨_, a1, p, C, dx, ws, _, rfl, hp, c, n, hl, hb B0 H0 B H σ _ S fun w B2 H2 s2 y => ?_⟩
  cases Dq.int_inv y
  have S2 := S.step s2
  have ha2 := s2.hh.at ha
  have it : atI (bs.map V.ref) k = some (.ref b) := by
    unfold atI
    rw [List.length_map, hbl, hj]
    show (bs.map V.ref)[j]? = _
    rw [List.getElem?_map, hbj]; rfl
  refine .inl ⟨_, _, k, _, rfl, rfl, .inl (.inl ha2), it, q b B2 H2 s2 ⟨vs, s2.hh.at hbv⟩ fun B3 H3 s3 => ?_⟩
  obtain ⟨dx3, ws3, a3, bs3, b3, vs3, c1, hp3, hl3, ha3, hbl3, hbj3, hbv3, dvs3, hput⟩ := (S2.step s3).bigLL e l hk
  rw [s3.hh.at (s2.hh.at hp)] at hp3; cases hp3
  rw [hl] at hl3; cases hl3
  rw [s3.hh.at ha2] at ha3
  have ebs : bs3 = bs := by
    have : bs.map V.ref = bs3.map V.ref := by injection ha3 with z; injection z
    exact ((List.map_inj_right (fun x y z => by injection z)).mp this).symm
  subst ebs
  rw [hbj] at hbj3; cases hbj3
  exact ⟨vs3, hbv3, dvs3, hput⟩
/-- o.f[k].append(e) -/
theorem wp_bigApp {k : Int} {j : Nat} {dss : List (List D)} (e : δ[i]? = some (hold K C p fs F)) (l : fget f fs = some (.ll dss)) (c : Cls K C) (n : NoAttr K C f) (hb : ED K tb δ (.int k)) (hj : ixN dss.length k = some j) (hk : dss[j]? = some ds) (h : ED K te δ d) (hz : ds.length < sizeLine)
    (q : E.nx (δ.set i (hold K C p (putD f (.ll (dss.set j (ds ++ [d]))) fs) F))) : WP K (tDrop (tBM K "list" rAppend (tOp (rIx K) (tFld K (tVar i) f) tb) (tCons te tNil))) E δ := fun B0 H0 B H σ D L S =>
  bigIn e l c n hb hj hk S fun b B1 H1 s1 ⟨vs, hv⟩ hput => ⟨.inl ⟨rfl, vs, .inl (.inl hv)⟩, h B0 H0 B1 H1 σ _ (S.step s1) fun v B2 H2 s2 dv => by
    obtain ⟨vs2, h1, h2, h3⟩ := hput B2 H2 s2
    exact ⟨b, vs2, v, rfl, rfl, h1, by rw [h2.len]; exact hz, L.nx _ _ B2 _ (h3 _ _ (h2.app (.cons dv .nil))) q⟩⟩
/-- o.f[k].remove(e), ints -/
theorem wp_bigRem {k r0 : Int} {j z : Nat} {dss : List (List D)} {ns : List Int} (e : δ[i]? = some (hold K C p fs F)) (l : fget f fs = some (.ll dss)) (c : Cls K C) (n : NoAttr K C f) (hb : ED K tb δ (.int k)) (hj : ixN dss.length k = some j) (hk : dss[j]? = some (ns.map PyData.int)) (h : ED K te δ (.int r0))
    (hz : ns[z]? = some r0) (hno : ∀ m : Nat, m < z → ns[m]? ≠ some r0) (q : E.nx (δ.set i (hold K C p (putD f (.ll (dss.set j ((ns.eraseIdx z).map PyData.int))) fs) F))) : WP K (tDrop (tBM K "list" rRemI (tOp (rIx K) (tFld K (tVar i) f) tb) (tCons te tNil))) E δ := fun B0 H0 B H σ D L S =>
  bigIn e l c n hb hj hk S fun b B1 H1 s1 ⟨vs, hv⟩ hput => ⟨.inl ⟨rfl, vs, .inl (.inl hv)⟩, h B0 H0 B1 H1 σ _ (S.step s1) fun v B2 H2 s2 dv => by
    cases Dq.int_inv dv
    obtain ⟨vs2, h1, h2, h3⟩ := hput B2 H2 s2
    cases h2.ints
    exact ⟨b, ns, r0, z, rfl, rfl, h1, hz, hno, L.nx _ _ B2 _ (h3 _ _ DqAll.ofInts) q⟩⟩
end
end DX

namespace DX
open PySem L2
variable [TabEnv]
/-! ### expressions that change what is there -/
def EX (K : PySem.W.Frag) (te : TE) (δ : List SV) (P : D → List SV → Prop) : Prop := ∀ (B0 H0 B H : Hp) (σ : L2.St) (Q : VK), Sd K B0 H0 B H σ δ → (∀ v B' H' d δ', Sd K B0 H0 B' H' σ δ' → Dq K B' v d → P d δ' → Q v H') → te σ H Q
def ETX (K : PySem.W.Frag) (tt : TT) (δ : List SV) (P : Bool → List SV → Prop) : Prop := ∀ (B0 H0 B H : Hp) (σ : L2.St) (Q : Bool → Hp → Prop), Sd K B0 H0 B H σ δ → (∀ b B' H' δ', Sd K B0 H0 B' H' σ δ' → P b δ' → Q b H') → tt σ H Q
section
variable {K : PySem.W.Frag} {B0 H0 B H B' H' : Hp} {σ : L2.St} {δ δ' : List SV} {ta tb te : TE} {tt t1 t2 : TT} {t u : TS} {d x y : D} {ds es : List D} {E : EndsD} {C p : Addr} {fs fs' : FM} {F F' : List Addr} {i : Nat} {f m : Str}
theorem EX.mono {P P' : D → List SV → Prop} (h : EX K te δ P) (q : ∀ d δ', P d δ' → P' d δ') : EX K te δ P' := fun B0 H0 B H σ Q S k => h B0 H0 B H σ Q S fun v B' H' d δ' S' a pd => k v B' H' d δ' S' a (q d δ' pd)
theorem ETX.mono {P P' : Bool → List SV → Prop} (h : ETX K tt δ P) (q : ∀ b δ', P b δ' → P' b δ') : ETX K tt δ P' := fun B0 H0 B H σ Q S k => h B0 H0 B H σ Q S fun b B' H' δ' S' pd => k b B' H' δ' S' (q b δ' pd)
theorem ET.etx {b : Bool} (h : ET K tt δ b) : ETX K tt δ (fun b' δ' => b' = b ∧ δ' = δ) := fun B0 H0 B H σ Q S q => h B0 H0 B H σ _ S fun B' H' s => q b B' H' δ (S.step s) ⟨rfl, rfl⟩
theorem etx_test {P : D → List SV → Prop} (h : EX K te δ P) (hb : ∀ d δ', P d δ' → ∃ b, d = .bool b) : ETX K (tTest te) δ (fun b δ' => P (.bool b) δ') := fun B0 H0 B H σ Q S q =>
  h B0 H0 B H σ _ S fun v B' H' d δ' S' a pd => by
    obtain ⟨b, rfl⟩ := hb d δ' pd
    cases Dq.bool_inv a
    exact ⟨b, rfl, q b B' H' δ' S' pd⟩
theorem etx_not {P : Bool → List SV → Prop} (h : ETX K tt δ P) : ETX K (tNot tt) δ (fun b δ' => P (!b) δ') := fun B0 H0 B H σ Q S q => h B0 H0 B H σ _ S fun b B' H' δ' S' pd => q (!b) B' H' δ' S' (by show P (!!b) δ'; rw [Bool.not_not]; exact pd)
theorem etx_and {P : Bool → List SV → Prop} {R : Bool → List SV → Prop} (h1 : ETX K t1 δ P) (h2 : ∀ δ', P true δ' → ETX K t2 δ' R) (h3 : ∀ δ', P false δ' → R false δ') : ETX K (tAnd t1 t2) δ R := fun B0 H0 B H σ Q S q =>
  h1 B0 H0 B H σ _ S fun b B1 H1 δ1 S1 pd => by
    cases b with
    | true => exact iteT (h2 δ1 pd B0 H0 B1 H1 σ _ S1 fun b B2 H2 δ2 S2 r => q b B2 H2 δ2 S2 r)
    | false => exact iteF (q false B1 H1 δ1 S1 (h3 δ1 pd))
theorem wp_ifX {P : Bool → List SV → Prop} (h : ETX K tt δ P) (h1 : ∀ δ', P true δ' → WP K t E δ') (h2 : ∀ δ', P false δ' → WP K u E δ') : WP K (tIfS tt t u) E δ := fun B0 H0 B H σ D L S =>
  h B0 H0 B H σ _ S fun b B1 H1 δ1 S1 pd => by
    cases b with
    | true => exact iteT (h1 δ1 pd B0 H0 B1 H1 σ D L S1)
    | false => exact iteF (h2 δ1 pd B0 H0 B1 H1 σ D L S1)
theorem wp_dropX {P : D → List SV → Prop} (h : EX K te δ P) (q : ∀ d δ', P d δ' → E.nx δ') : WP K (tDrop te) E δ := fun B0 H0 B H σ D L S =>
  h B0 H0 B H σ _ S fun v B1 H1 d δ1 S1 a pd => L.nx σ H1 B1 δ1 S1 (q d δ1 pd)
theorem wp_asgX {P : D → List SV → Prop} {j : Nat} (h : EX K te δ P) (q : ∀ d δ', P d δ' → E.nx (δ'.set j (.val d))) : WP K (tAsg te (gName j)) E δ := fun B0 H0 B H σ D L S =>
  h B0 H0 B H σ _ S fun v B1 H1 d δ1 S1 a pd => L.nx _ H1 B1 _ (S1.setVal a) (q d δ1 pd)
/-- an answer together with what has become of the object -/
theorem wp_retS (h : ED K te δ d) (q : E.rs d δ) : WP K (tRet te) E δ := fun B0 H0 B H σ D L S =>
  h B0 H0 B H σ _ S fun v B1 H1 s1 a => L.rs v B1 H1 d σ δ (S.step s1) a q
/-! ### methods that change their object -/
def spM {G : Type} (K : PySem.W.Frag) (C : Addr) (Pre : G → FM → List D → Prop) (Post : G → D → FM → Prop) : Sp := fun vs H Q _ => ∃ B p fs F us ds g, vs = .ref p :: us ∧ Pre g fs ds ∧ Bh B H ∧ BigR K C p fs F B H (.ref p) ∧ (∀ a ∈ F, B a = none) ∧ DqAll K B us ds ∧
  ∀ v B' H' d fs' F', Stm F B H B' H' → Dq K B' v d → BigR K C p fs' F' B' H' (.ref p) → (∀ a ∈ F', (a ∈ F ∨ H a = none) ∧ B' a = none) → Post g d fs' → Q v H'
theorem ex_meth {G : Type} {ta : TA} {Pre : G → FM → List D → Prop} {Post : G → D → FM → Prop} {X : XK} (g : G) (e : δ[i]? = some (hold K C p fs F)) (h : EA K ta δ ds) (r : Pre g fs ds) (hm : fget m fs = none) :
    EX K (tMeth C m (spM K C Pre Post) [] X (tVar i) ta) δ (fun d δ' => ∃ fs' F', δ' = δ.set i (hold K C p fs' F') ∧ Post g d fs') := fun B0 H0 B H σ Q S q => by
  obtain ⟨dx, ws, G, a1, hp, rr, eF, nd, hF⟩ := S.slotBig e
  refine ⟨_, a1, p, dx, ws, rfl, hp, rr.none hm, h B0 H0 B H σ _ S fun vs B1 H1 s1 dv => ?_⟩
  have S1 := S.step s1
  obtain ⟨dx1, ws1, G1, a2, hp1, rr1, eF1, nd1, hF1⟩ := S1.slotBig e
  refine ⟨B1, p, fs, F, vs, ds, g, by rw [List.append_nil], r, s1.bh, ⟨rfl, dx1, ws1, G1, hp1, rr1, eF1, nd1⟩, fun a ma => (hF1 a ma).2.1, dv, fun v B' H' d fs' F' st dq R' hF' post => ?_⟩
  refine q v B' H' d _ (S1.bigTo e st (fun a ma => ⟨R'.some a ma, (hF' a ma).2, ?_, ?_⟩) (fun w ew => ?_) BigR.stab) dq ⟨fs', F', rfl, post⟩
  · rcases (hF' a ma).1 with z | z
    · exact (hF1 a z).2.2
    · exact S1.hist.hh.free z
  · rcases (hF' a ma).1 with z | z
    · exact .inl z
    · exact .inr fun j t q n e1 e2 => new_apart S1 z j t q n e1 e2
  · rw [a2] at ew; cases ew; exact R'
/-- heap without F -/
def wo (F : List Addr) (H : Hp) : Hp := fun a => if a ∈ F then none else H a
theorem wo_in {a : Addr} (h : a ∈ F) : wo F H a = none := if_pos h
theorem wo_out {a : Addr} (h : a ∉ F) : wo F H a = H a := if_neg h
theorem wo_some {a : Addr} {o : HO} (h : wo F H a = some o) : a ∉ F ∧ H a = some o := by
  by_cases z : a ∈ F
  · rw [wo_in z] at h; cases h
  · rw [wo_out z] at h; exact ⟨z, h⟩
theorem wo_none {a : Addr} (h : wo F H a = none) : a ∈ F ∨ H a = none := by
  by_cases z : a ∈ F
  · exact .inl z
  · rw [wo_out z] at h; exact .inr h
def startM (N : List Str) (K : PySem.W.Frag) (C p : Addr) (fs : FM) (F : List Addr) (ds : List D) : List SV := hold K C p fs F :: (ds.map .val ++ List.replicate (N.length - 1 - ds.length) .no)
theorem start_sdM {N : List Str} {us : List V} (hN : 1 + ds.length ≤ N.length) (bh : Bh B H) (hb : ∀ a ∈ F, B a = none) (R : BigR K C p fs F B H (.ref p)) (h : DqAll K B us ds) :
    Sd K B (wo F H) B H (L2.start N (.ref p :: us)) (startM N K C p fs F ds) := by
  have hl := h.len
  have S0 := start_sd (N := N.tail) bh h
  have e1 : L2.start N (.ref p :: us) = some (.ref p) :: L2.start N.tail us := by
    unfold L2.start
    rw [List.map_cons, List.cons_append, List.length_cons, List.length_tail]
    congr 2
    congr 1
    omega
  have e2 : startM N K C p fs F ds = hold K C p fs F :: startD N.tail ds := by
    unfold startM startD
    rw [List.length_tail]
  have away : ∀ (k : Nat) (s : SV) (o : Option V), (startD N.tail ds)[k]? = some s → (s = .no ∨ ∃ d, s = .val d) := fun k s o e => by
    unfold startD at e
    rcases List.mem_append.mp (List.mem_of_getElem? e) with h | h
    · obtain ⟨y, _, rfl⟩ := List.mem_map.mp h; exact .inr ⟨y, rfl⟩
    · exact .inl (List.mem_replicate.mp h).2
  rw [e1, e2]
  refine ⟨⟨Sam.refl _, bh, fun a o e => ⟨o, (wo_some e).2, fun _ => rfl⟩, fun _ _ z => z⟩, by rw [List.length_cons, List.length_cons, S0.len], fun i s e => ?_, fun i j s t o q n a b c d z mz mt => ?_⟩
  · cases i with
    | zero =>
      have e : hold K C p fs F = s := Option.some.inj e
      subst e
      exact ⟨_, rfl, _, rfl, R, BigR.stab, fun a ma => ⟨R.some a ma, hb a ma, wo_in ma⟩⟩
    | succ i =>
      obtain ⟨o, eo, ok⟩ := S0.ok i s e
      refine ⟨o, eo, ?_⟩
      rcases away i s o e with rfl | ⟨d, rfl⟩
      · exact True.intro
      · exact ok
  · cases i with
    | zero =>
      cases j with
      | zero => exact n rfl
      | succ j =>
        rcases away j t q b with rfl | ⟨d, rfl⟩ <;> cases mt
    | succ i => rcases away i s o a with rfl | ⟨d, rfl⟩ <;> cases mz
end
section
variable {P : Program} {w : World} {K : PySem.W.Frag} {mg : Str → Option Value} {base : Heap} {C : Addr}
def EndM (K : PySem.W.Frag) (C p : Addr) (Q : D → FM → Prop) : EndsD := { nx := fun δ => ∃ fs' F', δ[0]? = some (hold K C p fs' F') ∧ Q .none fs', rt := fun _ => False, rs := fun d δ => ∃ fs' F', δ[0]? = some (hold K C p fs' F') ∧ Q d fs' }
theorem stm_end {B H B' H' : Hp} {F F' : List Addr} {fs' : FM} {p : Addr} {σ : L2.St} {δ : List SV} (S : Sd K B (wo F H) B' H' σ δ) (e : δ[0]? = some (hold K C p fs' F')) : Stm F B H B' H' ∧ BigR K C p fs' F' B' H' (.ref p) ∧ ∀ a ∈ F', (a ∈ F ∨ H a = none) ∧ B' a = none := by
  obtain ⟨dx, ws, G, a1, hp, rr, eF, nd, hF⟩ := S.slotBig e
  refine ⟨⟨S.hist.bb, S.hist.bh, fun a o ea na => S.hist.hh a o (by rw [wo_out na]; exact ea), fun a q na z => S.hist.fr a (by rw [wo_out na]; exact q) z⟩, ⟨rfl, dx, ws, G, hp, rr, eF, nd⟩, fun a ma => ⟨wo_none (hF a ma).2.2, (hF a ma).2.1⟩⟩
theorem ok_wpM {G : Type} {x qual : Str} {st : Stmt} {f : Addr} {fd : FuncData} {N ps : List Str} {k : Nat} {Pre : G → FM → List D → Prop} {Post : G → D → FM → Prop} (F : Fun K x qual st f fd) (S : FnScope N ps (defScope st)) (hN : ps.length ≤ N.length) (len : ∀ g fs ds, Pre g fs ds → 1 + ds.length = ps.length)
    (hb : ∀ (cdv : Value), fd.code = cdv → ∀ (A : Around) (outer : List Env) (s : Shared) (H : Hp) (E : XK), Room k (A.deeper (PyProof.Rows.envOfC qual (defScope st) s.heap.objs.size f cdv)) →
      ∃ t, PSs (cxOf CX0 P w K mg base N qual (defScope st) f cdv A outer s H E).nox (defBody st) t ∧ ∀ p F g fs ds, Pre g fs ds → WP K t (EndM K C p (Post g)) (startM N K C p fs F ds)) : FnOk P w K mg base CX0 (k + 1) f fd ps (spM K C Pre Post) := by
  refine F.okC S (fun vs H Q E h => ?_) (fun cdv hcv A outer s H vs Q E hr h => ?_)
  · obtain ⟨B, p, fs, F, us, ds, g, rfl, r, bh, R, hb, a, _⟩ := h
    rw [List.length_cons, a.len, ← len g fs ds r]; omega
  · obtain ⟨t, ht, q⟩ := hb cdv hcv A outer s H E hr
    refine ⟨t, ht, ?_⟩
    obtain ⟨B, p, fs, F, us, ds, g, rfl, r, bh, R, hbF, a, hq⟩ := h
    refine q p F g fs ds r B (wo F H) B H _ _ ⟨fun σ' H' B' δ' S' e => ?_, fun _ _ _ _ _ _ z => z.elim, fun _ _ _ _ _ z => z.elim, fun _ _ _ _ _ z => z.elim, fun _ _ _ _ _ _ _ _ _ _ z => z.elim, fun v B' H' d σ' δ' S' dv e => ?_⟩ (start_sdM (by have := len g fs ds r; omega) bh hbF R a)
    · obtain ⟨fs', F', e, po⟩ := e
      obtain ⟨st, R', hF'⟩ := stm_end S' e
      exact hq _ B' H' _ fs' F' st .non R' hF' po
    · obtain ⟨fs', F', e, po⟩ := e
      obtain ⟨st, R', hF'⟩ := stm_end S' e
      exact hq v B' H' d fs' F' st dv R' hF' po
end
/-! ### fields are stored; an object is made -/
section
variable {K : PySem.W.Frag} {B0 H0 B H B' H' : Hp} {σ : L2.St} {δ δ' : List SV} {ta tb te : TE} {t u : TS} {d x y : D} {ds es : List D} {E : EndsD} {C p : Addr} {fs fs' : FM} {F F' : List Addr} {i : Nat} {f m : Str}
theorem Sd.bigStore {x' : FD} {v' : V} {as' : List Addr} (S : Sd K B0 H0 B H σ δ) (e : δ[i]? = some (hold K C p fs F)) (r : FRep K B H x' v' as') (nw : ∀ a ∈ as', B a = none ∧ H0 a = none ∧ (∀ (j : Nat) (t : SV) (q : Option V), δ[j]? = some t → σ[j]? = some q → a ∉ foot t q)) (nn : as'.Nodup) :
    ∃ dx ws, σ[i]? = some (some (.ref p)) ∧ H p = some (.ins C dx ws) ∧ ws.length = fs.length ∧ ∃ F', Sd K B0 H0 B (upd H p (.ins C dx (putF f v' ws))) σ (δ.set i (hold K C p (putD f x' fs) F')) := by
  obtain ⟨dx, ws, G, a1, hp, rr, rfl, nd, hF⟩ := S.slotBig e
  obtain ⟨n1, n2⟩ := List.nodup_cons.mp nd
  have out : ∀ a ∈ as', a ∉ p :: G := fun a ma => (nw a ma).2.2 i _ _ e a1
  obtain ⟨G', g1, g2, g3⟩ := FsRep.store (f := f) r rr
  have np : p ∉ G' := fun z => (g2 p z).elim n1 fun z => out p z (List.mem_cons_self ..)
  refine ⟨dx, ws, a1, hp, rr.len, p :: G', ?_⟩
  have hpB := (hF p (List.mem_cons_self ..)).2.1
  refine S.bigTo e ⟨Sam.refl _, ⟨fun b o eb => ?_, S.hist.bh.tb.upd (.inr ⟨_, hp, (fun _ z => nomatch z), (fun _ z => nomatch z)⟩) (fun _ z => nomatch z)⟩, fun b o eb nb => ?_, fun b _ _ z => z⟩ (fun b mb => ?_) (fun v ev => ?_) BigR.stab
  · have : b ≠ p := fun z => by subst z; rw [hpB] at eb; cases eb
    rw [upd_ne this]; exact S.hist.bh.sm _ _ eb
  · have : b ≠ p := fun z => nb (z ▸ List.mem_cons_self ..)
    exact ⟨o, (upd_ne this).trans eb, fun _ => rfl⟩
  · rcases List.mem_cons.mp mb with rfl | mb
    · exact ⟨(by rw [upd_same]; exact fun z => nomatch z), hpB, (hF b (List.mem_cons_self ..)).2.2, .inl (List.mem_cons_self ..)⟩
    · have hb : b ≠ p := fun z => np (z ▸ mb)
      rw [upd_ne hb]
      rcases g2 b mb with z | z
      · obtain ⟨h1, h2, h3⟩ := hF b (List.mem_cons_of_mem _ z)
        exact ⟨h1, h2, h3, .inl (List.mem_cons_of_mem _ z)⟩
      · obtain ⟨h1, h2, h3⟩ := nw b z
        exact ⟨r.some b z, h1, h2, .inr fun j t q _ => h3 j t q⟩
  · rw [a1] at ev
    cases ev
    refine ⟨rfl, dx, _, G', upd_same, g1.step (fun _ _ z => z) fun a ma o eo _ => (upd_ne (fun z => np (z ▸ ma) : a ≠ p)).trans eo, rfl, List.nodup_cons.mpr ⟨np, g3 n2 nn fun a ma z => out a ma (List.mem_cons_of_mem _ z)⟩⟩
/-- o.f = a datum -/
theorem wp_fldS (e : δ[i]? = some (hold K C p fs F)) (c : Cls K C) (n : NoAttr K C f) (hl : fs.length < 1000) (h : ED K te δ d) (q : ∀ F', E.nx (δ.set i (hold K C p (putD f (.s d) fs) F'))) : WP K (sFld K (tVar i) te f) E δ := fun B0 H0 B H σ D L S =>
  h B0 H0 B H σ _ S fun v B1 H1 s1 dv => by
    obtain ⟨dx, ws, a1, hp, hw, F', S'⟩ := (S.step s1).bigStore (f := f) (x' := .s d) e ⟨rfl, dv⟩ (fun a ma => by cases ma) .nil
    exact ⟨_, a1, p, C, dx, ws, rfl, hp, c, n, by omega, L.nx _ _ B1 _ S' (q F')⟩
/-- o.f = a new list -/
theorem wp_fldL (e : δ[i]? = some (hold K C p fs F)) (c : Cls K C) (n : NoAttr K C f) (hl : fs.length < 1000) (h : EN K te δ ds) (q : ∀ F', E.nx (δ.set i (hold K C p (putD f (.l ds) fs) F'))) : WP K (sFld K (tVar i) te f) E δ := fun B0 H0 B H σ D L S =>
  h B0 H0 B H σ _ S fun a vs B1 H1 s1 na ba ha dv => by
    obtain ⟨dx, ws, a1, hp, hw, F', S'⟩ := (S.step s1).bigStore (f := f) (x' := .l ds) (v' := .ref a) (as' := [a]) e ⟨a, vs, rfl, rfl, ha, dv⟩ (fun b mb => by
      rw [List.mem_singleton.mp mb]
      exact ⟨ba, S.hist.hh.free na, new_foot (S := S) na⟩) (by simp)
    exact ⟨_, a1, p, C, dx, ws, rfl, hp, c, n, by omega, L.nx _ _ B1 _ S' (q F')⟩
/-- a new list of new lists -/
def ENN (K : PySem.W.Frag) (te : TE) (δ : List SV) (dss : List (List D)) : Prop := ∀ (B0 H0 B H : Hp) (σ : L2.St) (Q : VK), Sd K B0 H0 B H σ δ → (∀ a bs B' H', Stp B H B' H' → (∀ b ∈ a :: bs, H b = none ∧ B' b = none) → (a :: bs).Nodup → H' a = some (.lst (bs.map V.ref)) → LRep K B' H' bs dss → Q (.ref a) H') → te σ H Q
theorem wp_fldLL {dss : List (List D)} (e : δ[i]? = some (hold K C p fs F)) (c : Cls K C) (n : NoAttr K C f) (hl : fs.length < 1000) (h : ENN K te δ dss) (q : ∀ F', E.nx (δ.set i (hold K C p (putD f (.ll dss) fs) F'))) : WP K (sFld K (tVar i) te f) E δ := fun B0 H0 B H σ D L S =>
  h B0 H0 B H σ _ S fun a bs B1 H1 s1 nw nn ha dv => by
    obtain ⟨dx, ws, a1, hp, hw, F', S'⟩ := (S.step s1).bigStore (f := f) (x' := .ll dss) (v' := .ref a) (as' := a :: bs) e ⟨a, bs, rfl, rfl, ha, dv⟩ (fun b mb => by
      obtain ⟨na, ba⟩ := nw b mb
      exact ⟨ba, S.hist.hh.free na, new_foot (S := S) na⟩) nn
    exact ⟨_, a1, p, C, dx, ws, rfl, hp, c, n, by omega, L.nx _ _ B1 _ S' (q F')⟩
/-- C(..) -/
theorem wp_asgMake {G : Type} {ta : TA} {Pre : G → FM → List D → Prop} {Post : G → D → FM → Prop} {X : XK} (g : G) (h : EA K ta δ ds) (r : Pre g [] ds) (hn : ∀ d fs', Post g d fs' → d = .none) (q : ∀ p F' fs', Post g .none fs' → E.nx (δ.set i (hold K C p fs' F'))) :
    WP K (tAsg (tMake C (spM K C Pre Post) [] X ta) (gName i)) E δ := fun B0 H0 B H σ D L S =>
  h B0 H0 B H σ _ S fun vs B1 H1 s1 dv x dx nx ndx hne => by
    have S1 := S.step s1
    have sN : Stp B1 H1 B1 (upd (upd H1 dx (.own x)) x (.ins C dx [])) := (Stp.newOwn s1.bh ndx).trans (.newOwn (Stp.newOwn (o := .own x) s1.bh ndx).bh (by rw [upd_ne (fun z => hne z.symm : x ≠ dx)]; exact nx))
    have bx : B1 x = none := s1.bh.free nx
    refine ⟨B1, x, [], [x], vs, ds, g, by rw [List.append_nil], r, sN.bh, ⟨rfl, dx, [], [], upd_same, .nil, rfl, by simp⟩, fun a ma => by rw [List.mem_singleton.mp ma]; exact bx, dv, fun v B' H' d fs' F' st dq R' hF' post => ?_⟩
    have hd := hn d fs' post
    subst hd
    cases dq
    refine ⟨rfl, ?_⟩
    have st2 : Stp B1 H1 B' H' := ⟨st.bb, st.bh, fun a o ea => ?_, fun a qa z => ?_⟩
    · have S2 := S1.step st2
      refine L.nx _ H' B' _ (S2.set (x := hold K C x fs' F') ⟨_, rfl, R', BigR.stab, fun a ma => ⟨R'.some a ma, (hF' a ma).2, ?_⟩⟩ fun a ma j t o n e1 e2 => ?_) (q x F' fs' post)
      · rcases (hF' a ma).1 with z | z
        · rw [List.mem_singleton.mp z]; exact S1.hist.hh.free nx
        · exact S1.hist.hh.free (by
            cases e : H1 a with
            | none => rfl
            | some o => exact absurd z (ne_none_of sN.hh (by rw [e]; exact fun z => nomatch z)))
      · rcases (hF' a ma).1 with z | z
        · rw [List.mem_singleton.mp z]; exact new_apart S1 nx j t o n e1 e2
        · exact new_apart S1 (by
            cases e : H1 a with
            | none => rfl
            | some o => exact absurd z (ne_none_of sN.hh (by rw [e]; exact fun z => nomatch z))) j t o n e1 e2
    · have ne : a ≠ x := fun z => by subst z; rw [nx] at ea; cases ea
      obtain ⟨o1, h1, h2⟩ := sN.hh a o ea
      obtain ⟨o2, h3, h4⟩ := st.hh a o1 h1 (fun z => ne (List.mem_singleton.mp z))
      exact ⟨o2, h3, fun z => by have e1 := h2 z; subst e1; exact h4 z⟩
    · have ne : a ≠ x := fun e => by subst e; exact qa nx
      exact st.fr a (ne_none_of sN.hh qa) (fun z => ne (List.mem_singleton.mp z)) z
end
end DX

namespace DX
open PySem PySem.Spec PyProof.Rows L2
variable [TabEnv]
/-! ### rules with the written part named -/
section
variable {X : Cx} {K : PySem.W.Frag} {e o i : Expr} {td ty te ta tv : TE} {pos pos' apos : Pos} {value : Expr} {f : Str}
theorem pget_list (hK : X.K = K := by rfl) : PGet X (rIxL K) := by
  subst hK
  intro pins s σ H o i ov iv Q I ro ri h
  obtain ⟨p, xs, k, z, rfl, rfl, hq, he, q⟩ := h
  cases ro
  obtain ⟨t, rfl⟩ := ri
  obtain ⟨its, r, pl, hz⟩ := I.list hq
  obtain ⟨j, h1, h2, h3, h4, h5⟩ := atI_get he
  obtain ⟨w, ew, rw'⟩ := r.get h2
  have hl := r.length
  have hn := line63
  have fin : L2.EP X pins σ Q w s := ⟨z, H, I, rw', q⟩
  by_cases h0 : 0 ≤ k
  · have hj : k.toNat = j := by
      rw [seqIndex_of h0 h5] at h1
      exact Option.some.inj h1
    exact wpAny_getItem_list pl.isList h0 (by omega) (by rw [hj]; simpa using ew) fin
  · have hj : (k + (its.toArray.size : Int)).toNat = j := by
      rw [seqIndex_neg (by omega) h4] at h1
      rw [List.size_toArray, ← hl]
      exact Option.some.inj h1
    exact wpAny_getItem_list_neg pl.isList (by omega) (by rw [List.size_toArray] <;> omega) (by omega) (by rw [hj]; simpa using ew) fin
theorem kpe_fld (he : PE X e ta) (hK : X.K = K := by rfl) (hb : attributeBase e f X.env (eval e X.env) = eval e X.env := by rfl) : PE X (.Attribute e f pos) (tFld K ta f) := by subst hK; exact pe_fld he hb
theorem kps_fld (ha : PE X o ta) (hv : PE X value tv) (hK : X.K = K := by rfl) (hs : swapsWith value (some (.Attribute o f pos')) pos.line X.env = pure false := by rfl) : PS X (.Assign [.Attribute o f pos'] value pos) (sFld K ta tv f) := by subst hK; exact ps_fld ha hv hs
/-- locked, or locked already -/
def tLkE (t : TE) : TE := fun σ H Q => tLockE t σ H Q ∨ t σ H Q
theorem pe_lkE (h : PE X e te) : PE X e (tLkE te) := ⟨fun pins s σ H Q I w => w.elim (fun w => (pe_lock h).run pins s σ H Q I w) fun w => h.run pins s σ H Q I w⟩
end
section
variable {K : PySem.W.Frag} {B0 H0 B H B' H' : Hp} {σ : L2.St} {δ δ' : List SV} {ta tb te : TE} {t u : TS} {d x y : D} {ds es : List D} {E : EndsD} {C p : Addr} {fs fs' : FM} {F F' : List Addr} {i : Nat} {f m : Str}
/-! ### a method that only reads, of an object that changes -/
def Thin : D → Prop
  | .none => True
  | .bool _ => True
  | .int _ => True
  | .str _ => True
  | .dict es => ∀ p ∈ es, Scal p.1 ∧ Scal p.2
  | _ => False
def knD : FD → D
  | .s d => d
  | .l ds => .list ds
  | .ll dss => .list (dss.map PyData.list)
  | .la _ dss => .list (dss.map PyData.list)
  | .m es => .dict es
/-- a method that reads its object, with a ghost -/
def spRG {G : Type} (K : PySem.W.Frag) (C : Addr) (Pre : G → FsD → List D → Prop) (Post : G → D → Prop) : Sp := fun vs H Q _ => ∃ B p dx ws fs us ds g, vs = .ref p :: us ∧ Pre g fs ds ∧ Bh B H ∧ H p = some (.ins C dx ws) ∧ Few ws fs ∧ FldOk K B ws fs ∧ DqAll K B us ds ∧ ∀ v B' H' d, Stp B H B' H' → Dq K B' v d → Post g d → Q v H'
def kn (fs : FM) : FsD := fs.map fun q => (q.1, knD q.2)
def NoM (fs : FM) : Prop := ∀ f es, (f, FD.m es) ∉ fs
theorem LRep.kn {B1 : Hp} {bs : List Addr} {dss : List (List D)} (h : LRep K B H bs dss) (hb : Sam B B1) : (∀ a ∈ bs, B1 a = H a) → DqAll K B1 (bs.map V.ref) (dss.map PyData.list) := by
  induction h with
  | nil => exact fun _ => .nil
  | cons e q _ ih => exact fun hh => .cons (.lst (.inl (.inl (by rw [hh _ (List.mem_cons_self ..)]; exact e))) (DqAll.up hb _ _ q)) (ih fun a ma => hh a (List.mem_cons_of_mem _ ma))
theorem FRep.kn {B1 : Hp} {x : FD} {v : V} {as : List Addr} (h : FRep K B H x v as) (hb : Sam B B1) (hh : ∀ a ∈ as, B1 a = H a) : Dq K B1 v (knD x) := by
  cases x with
  | s d => exact Dq.up hb _ _ h.2
  | l ds =>
    obtain ⟨a, vs, rfl, rfl, e, q⟩ := h
    exact .lst (.inl (.inl (by rw [hh a (List.mem_cons_self ..)]; exact e))) (DqAll.up hb _ _ q)
  | ll dss =>
    obtain ⟨a, bs, rfl, rfl, e, q⟩ := h
    exact .lst (.inl (.inl (by rw [hh a (List.mem_cons_self ..)]; exact e))) (q.kn hb fun b mb => hh b (List.mem_cons_of_mem _ mb))
  | la bs dss =>
    obtain ⟨a, rfl, rfl, e, q⟩ := h
    exact .lst (.inl (.inl (by rw [hh a (List.mem_cons_self ..)]; exact e))) (q.kn hb fun b mb => hh b (List.mem_cons_of_mem _ mb))
  | m es =>
    obtain ⟨a, vs, rfl, rfl, e, q⟩ := h
    exact .dct (.inl (by rw [hh a (List.mem_cons_self ..)]; exact e)) (DqKv.up hb _ _ q)
theorem FsRep.keys {ws : List (Str × V)} {G : List Addr} (h : FsRep K B H fs ws G) : ws.map Prod.fst = fs.map Prod.fst := by
  induction h with
  | nil => rfl
  | cons _ _ ih => rw [List.map_cons, List.map_cons, ih]
theorem FsRep.kn {B1 : Hp} {ws : List (Str × V)} {G : List Addr} (h : FsRep K B H fs ws G) (hb : Sam B B1) : (∀ a ∈ G, B1 a = H a) → (fs.map Prod.fst).Nodup → FldOk K B1 ws (kn fs) := by
  induction h with
  | nil => exact fun _ _ f d hm => by cases hm
  | @cons g y u as0 fs ws G r t ih =>
    intro hh nd f d hm
    obtain ⟨n1, n2⟩ := List.nodup_cons.mp nd
    rcases List.mem_cons.mp hm with z | z
    · injection z with z1 z2
      subst z1; subst z2
      exact ⟨u, lookup_hit rfl, r.kn hb fun a ma => hh a (List.mem_append_left _ ma)⟩
    · have hne : ¬ g = f := fun e => by
        subst e
        obtain ⟨q, mq, eq⟩ := List.mem_map.mp z
        have : q.1 = g := congrArg Prod.fst eq
        exact n1 (List.mem_map.mpr ⟨q, mq, this⟩)
      obtain ⟨v, a, b⟩ := ih (fun a ma => hh a (List.mem_append_right _ ma)) n2 f d z
      exact ⟨v, (lookup_miss hne).trans a, b⟩
theorem FsRep.lists {ws : List (Str × V)} {G : List Addr} (h : FsRep K B H fs ws G) : NoM fs → ∀ a ∈ G, ∃ vs, H a = Option.some (.lst vs) := by
  induction h with
  | nil => exact fun _ a ma => by cases ma
  | @cons g y u as0 fs ws G r t ih =>
    intro hn a ma
    rcases List.mem_append.mp ma with z | z
    · cases y with
      | s d => rw [r.1] at z; cases z
      | l ds =>
        obtain ⟨b, vs, rfl, rfl, e, q⟩ := r
        rw [List.mem_singleton.mp z]; exact ⟨_, e⟩
      | ll dss =>
        obtain ⟨b, bs, rfl, rfl, e, q⟩ := r
        rcases List.mem_cons.mp z with rfl | z
        · exact ⟨_, e⟩
        · exact q.some a z
      | la bs dss =>
        obtain ⟨b, rfl, rfl, e, q⟩ := r
        rcases List.mem_cons.mp z with rfl | z
        · exact ⟨_, e⟩
        · exact q.some a z
      | m es => exact absurd (List.mem_cons_self ..) (hn g es)
    · exact ih (fun f es hm => hn f es (List.mem_cons_of_mem _ hm)) a z
theorem Scal.any {B B' : Hp} {v : V} (s : Scal d) (h : Dq K B v d) : Dq K B' v d := s.dq h
theorem dqkv_scal {B B' : Hp} : ∀ {es : List (D × D)} {vs : List (Key × V)}, (∀ p ∈ es, Scal p.1 ∧ Scal p.2) → DqKv K B vs es → DqKv K B' vs es
  | [], _, _, h => by cases h; exact .nil
  | e :: es, _, hs, h => by
    cases h with
    | cons a b c => exact .cons ((hs _ (List.mem_cons_self ..)).1.any a) ((hs _ (List.mem_cons_self ..)).2.any b) (dqkv_scal (fun p mp => hs p (List.mem_cons_of_mem _ mp)) c)
theorem Thin.off {G : List Addr} {v : V} (ht : Thin d) (hl : ∀ a ∈ G, ∃ vs, B' a = some (.lst vs)) (h : Dq K B' v d) : Dq K (wo G B') v d := by
  cases h with
  | non => exact .non
  | bl b => exact .bl b
  | int i => exact .int i
  | str x => exact .str x
  | lst _ _ => exact ht.elim
  | tup _ _ => exact ht.elim
  | @dct a xs es hr hk =>
    have na : a ∉ G := fun z => by
      obtain ⟨vs, e⟩ := hl a z
      rcases hr with hr | ⟨o, hr⟩
      · rw [e] at hr; cases hr
      · rw [e] at hr; cases hr
    refine .dct ?_ (dqkv_scal ht hk)
    rcases hr with hr | ⟨o, hr⟩
    · exact .inl (by rw [wo_out na]; exact hr)
    · exact .inr ⟨o, by rw [wo_out na]; exact hr⟩
theorem kn_keys : (kn fs).map Prod.fst = fs.map Prod.fst := by
  unfold kn
  rw [List.map_map]; rfl
theorem fget_none (h : m ∉ fs.map Prod.fst) : fget m fs = none := by
  induction fs with
  | nil => rfl
  | cons q fs ih =>
    obtain ⟨g, y⟩ := q
    unfold fget
    rw [if_neg (fun z => h (by rw [← z]; exact List.mem_cons_self ..) : ¬ g = m)]
    exact ih fun z => h (List.mem_cons_of_mem _ z)
theorem ep_methF {G : Type} {ta : TA} {Pre : G → FsD → List D → Prop} {Post : G → D → Prop} {X : XK} (g : G) (e : δ[i]? = some (hold K C p fs F)) (hn : NoM fs) (hd : (fs.map Prod.fst).Nodup) (h : EA K ta δ ds) (r : Pre g (kn fs) ds) (hm : m ∉ fs.map Prod.fst) (ht : ∀ d, Post g d → Thin d) :
    EP K (tMeth C m (spRG K C Pre Post) [] X (tVar i) ta) δ (Post g) := fun B0 H0 B H σ Q S q => by
  obtain ⟨dx, ws, G, a1, hp, rr, rfl, nd, hF⟩ := S.slotBig e
  refine ⟨_, a1, p, dx, ws, rfl, hp, rr.none (fget_none hm), h B0 H0 B H σ _ S fun vs B1 H1 s1 dv => ?_⟩
  obtain ⟨dx1, ws1, G1, a2, hp1, rr1, eF1, nd1, hF1⟩ := (S.step s1).slotBig e
  have eG : G = G1 := by injection eF1
  subst eG
  have bG : ∀ a ∈ G, B1 a = none := fun a ma => (hF1 a (List.mem_cons_of_mem _ ma)).2.1
  have k1 : Sam B1 (fun a => if a ∈ G then H1 a else B1 a) := fun a o ea => by
    have : a ∉ G := fun z => by rw [bG a z] at ea; cases ea
    refine ⟨o, ?_, fun _ => rfl⟩
    show (if a ∈ G then H1 a else B1 a) = _
    rw [if_neg this]; exact ea
  have k2 : Sam (fun a => if a ∈ G then H1 a else B1 a) H1 := fun a o ea => by
    have ea : (if a ∈ G then H1 a else B1 a) = some o := ea
    by_cases z : a ∈ G
    · rw [if_pos z] at ea; exact ⟨o, ea, fun _ => rfl⟩
    · rw [if_neg z] at ea; exact s1.bh.sm _ _ ea
  have hkn := rr1.kn k1 (fun a ma => if_pos ma) hd
  refine ⟨_, p, dx1, ws1, kn fs, vs, ds, g, by rw [List.append_nil], r, ⟨k2, s1.bh.tb⟩, hp1, fun x hx => ?_, hkn, DqAll.up k1 _ _ dv, fun v B' H' d s2 b pd => ?_⟩
  · rw [kn_keys, ← rr1.keys]
    cases el : ws1.lookup x with
    | none => rw [el] at hx; cases hx
    | some v =>
      refine Classical.byContradiction fun z => ?_
      have : ∀ (l : List (Str × V)), x ∉ l.map Prod.fst → l.lookup x = none := fun l => by
        induction l with
        | nil => exact fun _ => rfl
        | cons q l ih =>
          intro hq
          exact (lookup_miss (fun e => hq (e ▸ List.mem_cons_self ..) : ¬ q.1 = x)).trans (ih fun z => hq (List.mem_cons_of_mem _ z))
      rw [this _ z] at el; cases el
  · have hlst : ∀ a ∈ G, ∃ vs, B' a = some (.lst vs) := fun a ma => by
      obtain ⟨us, eu⟩ := rr1.lists hn a ma
      exact ⟨us, s2.bb.at (by show (if a ∈ G then H1 a else B1 a) = _; rw [if_pos ma]; exact eu)⟩
    refine q v (wo G B') H' d (s1.trans ⟨fun a o ea => ?_, ⟨fun a o ea => s2.bh.sm _ _ (wo_some ea).2, s2.bh.tb⟩, s2.hh, fun a ha hb => ?_⟩) ((ht d pd).off hlst b) pd
    · have na : a ∉ G := fun z => by rw [bG a z] at ea; cases ea
      rw [wo_out na]
      exact (k1.trans s2.bb) a o ea
    · by_cases z : a ∈ G
      · exact wo_in z
      · rw [wo_out z]
        exact s2.fr a ha (by show (if a ∈ G then H1 a else B1 a) = _; rw [if_neg z]; exact hb)
theorem ep_methG {G : Type} {fs : FsD} {ta : TA} {Pre : G → FsD → List D → Prop} {Post : G → D → Prop} {X : XK} (g : G) (e : δ[i]? = some (.ob C fs)) (h : EA K ta δ ds) (r : Pre g fs ds) (hm : m ∉ fs.map (·.1)) : EP K (tMeth C m (spRG K C Pre Post) [] X (tVar i) ta) δ (Post g) := fun B0 H0 B H σ Q S q => by
  obtain ⟨p, dx, ws, a, hp, fw, hf⟩ := S.slotOb e
  refine ⟨_, a, p, dx, ws, rfl, hp, Few.none fw hm, h B0 H0 B H σ _ S fun vs B1 H1 s1 dv => ?_⟩
  exact ⟨B1, p, dx, ws, fs, vs, ds, g, by rw [List.append_nil], r, s1.bh, s1.hh.at hp, fw, hf.up s1.bb, dv, fun v B' H' d s2 b pd => q v B' H' d (s1.trans s2) b pd⟩
/-! ### a new list of new lists -/
theorem LRep.up {bs : List Addr} {dss : List (List D)} (h : LRep K B H bs dss) (hb : Sam B B') (hh : Sam H H') : LRep K B' H' bs dss := h.step (fun w d => Dq.up hb d w) fun a ma o e n => hh.at e n
theorem LRep.snoc {b : Addr} {bs : List Addr} {vs : List V} {dss : List (List D)} (h : LRep K B H bs dss) (e : H b = Option.some (.lst vs)) (q : DqAll K B vs ds) : LRep K B H (bs ++ [b]) (dss ++ [ds]) := by
  induction h with
  | nil => exact .cons e q .nil
  | cons e' q' _ ih => exact .cons e' q' ih
theorem enn_lc {α : Type} {xs : List α} {gd : α → D} {wi : TI} {g : TG} {vs : List Nat} {f : α → List D} {af : α → List SV} (hw : EI K wi δ (xs.map gd)) (hl : xs.length ≤ sizeLine)
    (hg : ∀ x, x ∈ xs → GW K g vs (wipeD δ vs) (gd x) (af x)) (he : ∀ x, x ∈ xs → EN K te (af x) (f x)) : ENN K (tLc wi g tYes te vs) δ (xs.map f) := fun B0 H0 B H σ Q S q =>
  hw B0 H0 B H σ _ S fun J B1 H1 s1 yd L nL => by
    have S1 := S.step s1
    have hfoot := new_foot (S := S1) nL
    have h0L := S1.hist.hh.free nL
    refine ⟨fun k m H' => m = xs.length - k ∧ k ≤ xs.length ∧ ∃ B' bs, Sd K B1 H0 B' H' σ δ ∧ B' L = none ∧ H' L = some (.lst (bs.map V.ref)) ∧ LRep K B' H' bs ((xs.take k).map f) ∧ (∀ b ∈ bs, H1 b = none ∧ B' b = none ∧ b ≠ L) ∧ bs.Nodup ∧ Stp B1 H1 B' H',
      ⟨_, rfl, Nat.zero_le _, B1, [], ?_, s1.bh.free nL, upd_same, ?_, fun b mb => (by cases mb), .nil, .newOwn s1.bh nL⟩, ?_⟩
    · exact (S1.past S1.hist.bb (Sam.refl _)).step (.newOwn s1.bh nL)
    · rw [List.take_zero]; exact .nil
    rintro k m H' ⟨rfl, hk, B', bs, S', bL, hL, hA, hbs, hnd, sp⟩
    obtain ⟨y1, y2⟩ := yd B' H' k S'.hist.bb S'.hist.bh
    by_cases hlt : k < xs.length
    · obtain ⟨go, yy⟩ := y1 (by rw [List.length_map]; exact hlt)
      refine .inr ⟨go, fun H'' => ∃ B'' bs, Sd K B1 H0 B'' H'' σ δ ∧ B'' L = none ∧ H'' L = some (.lst (bs.map V.ref)) ∧ LRep K B'' H'' bs ((xs.take (k + 1)).map f) ∧ (∀ b ∈ bs, H1 b = none ∧ B'' b = none ∧ b ≠ L) ∧ bs.Nodup ∧ Stp B1 H1 B'' H'', fun H'' z => ⟨xs.length - (k + 1), by omega, rfl, hlt, z⟩, fun x H2 yl => ?_⟩
      obtain ⟨B2, d', s2, ed', dp⟩ := yy x H2 yl
      have ed : xs[k]? = some xs[k] := List.getElem?_eq_getElem hlt
      have eg : d' = gd xs[k] := by
        rw [List.getElem?_map, ed] at ed'
        exact (Option.some.inj ed').symm
      subst eg
      have hm : xs[k] ∈ xs := List.getElem_mem hlt
      have hLne : H' L ≠ none := by rw [hL]; exact fun z => nomatch z
      have S2 := S'.step s2
      refine hg xs[k] hm B1 H0 B2 H2 _ _ _ (S2.wipe vs) dp fun σ3 S3 ew => ⟨ew.trans wipe_wipe, tyes_true (iteT (he xs[k] hm B1 H0 B2 H2 _ _ S3 fun pp us B4 H4 s4 np bp hp da => ?_))⟩
      have st := s2.trans s4
      have hL4 : H4 L = some (.lst (bs.map V.ref)) := st.hh.at hL
      have bL4 : B4 L = none := st.fr L hLne bL
      have np' : H' pp = none := s2.hh.free np
      have hpL : pp ≠ L := fun z => hLne (z ▸ np')
      have S4 := S'.step st
      refine ⟨bs.map V.ref, hL4, ?_, B4, bs ++ [pp], S4.updFree bL4 h0L hfoot (.inr ⟨_, hL4, nt_lst⟩) nt_lst.1, bL4, (by rw [upd_same, List.map_append]; rfl), ?_, fun b mb => ?_, ?_, ?_⟩
      · have h1 := hA.len
        rw [List.length_map, List.length_take] at h1
        rw [List.length_map]; omega
      · rw [List.take_add_one, ed, List.map_append]
        refine LRep.step (fun _ _ z => z) ((hA.up st.bb st.hh).snoc hp da) fun a ma o eo _ => ?_
        rcases List.mem_append.mp ma with z | z
        · exact (upd_ne (hbs a z).2.2).trans eo
        · rw [List.mem_singleton.mp z] at eo ⊢; exact (upd_ne hpL).trans eo
      · rcases List.mem_append.mp mb with z | z
        · obtain ⟨h1, h2, h3⟩ := hbs b z
          obtain ⟨us', eu⟩ := hA.some b z
          exact ⟨h1, st.fr b (by rw [eu]; exact fun z => nomatch z) h2, h3⟩
        · rw [List.mem_singleton.mp z]
          exact ⟨sp.hh.free np', bp, hpL⟩
      · refine List.nodup_append.mpr ⟨hnd, by simp, fun a ma b mb e => ?_⟩
        rw [List.mem_singleton.mp mb] at e
        subst e
        obtain ⟨us', eu⟩ := hA.some a ma
        rw [np'] at eu; cases eu
      · exact (sp.trans st).updNew nL bL4 ⟨_, hL4, nt_lst⟩ nt_lst.1
    · have e : k = xs.length := by omega
      subst e
      rw [List.take_length] at hA
      refine .inl ⟨y2 (by rw [List.length_map]), q L bs B' H' (s1.trans sp) (fun b mb => ?_) ?_ hL hA⟩
      · rcases List.mem_cons.mp mb with rfl | mb
        · exact ⟨s1.hh.free nL, bL⟩
        · exact ⟨s1.hh.free (hbs b mb).1, (hbs b mb).2.1⟩
      · exact List.nodup_cons.mpr ⟨fun z => (hbs L z).2.2 rfl, hnd⟩
/-! ### dicts of ints -/
def kvD (ms : List (Int × D)) : List (D × D) := ms.map fun q => (PyData.int q.1, q.2)
def kget (k : Int) : List (Int × D) → Option D
  | [] => none
  | (j, d) :: r => if j = k then some d else kget k r
theorem dqkv_get : ∀ {ms : List (Int × D)} {vs : List (Key × V)} {k : Int}, DqKv K B vs (kvD ms) → (∀ d, kget k ms = some d → ∃ v, valV vs (Sum.inl k) = some v ∧ Dq K B v d) ∧ (kget k ms = none → valV vs (Sum.inl k) = none)
  | [], _, k, h => by
    cases h
    exact ⟨fun d e => (by cases e), fun _ => rfl⟩
  | (j, d0) :: ms, _, k, h => by
    cases h with
    | @cons key v vs e d' ds h1 h2 h3 =>
      have hk : key = Sum.inl j := by
        cases key with
        | inl z => cases h1; rfl
        | inr z => cases h1
      subst hk
      have ih := dqkv_get (ms := ms) (k := k) h3
      unfold kget
      by_cases z : j = k
      · subst z
        rw [if_pos rfl]
        refine ⟨fun d e => ?_, fun e => by cases e⟩
        cases e
        exact ⟨v, valV_pos rfl, h2⟩
      · rw [if_neg z]
        have hne : ¬ (Sum.inl j : Key) = Sum.inl k := fun e => z (by injection e)
        rw [valV_neg hne]
        exact ih
theorem ed_dget {ms : List (Int × D)} {k : Int} (h : ED K ta δ (.dict (kvD ms))) (hk : ED K tb δ (.int k)) (e : kget k ms = some d) : ED K (tDGet ta tb) δ d := fun B0 H0 B H σ Q S q =>
  h B0 H0 B H σ _ S fun v B1 H1 s1 a => hk B0 H0 B1 H1 σ _ (S.step s1) fun w B2 H2 s2 b => by
    cases Dq.int_inv b
    cases a with
    | dct hr hkv =>
      obtain ⟨v, ev, dv⟩ := (dqkv_get hkv).1 d e
      exact ⟨_, v, rfl, .inl ⟨_, Sum.inl k, rd_up s2.hh (rd_up s1.bh hr), rfl, ev.symm⟩, q v B2 H2 (s1.trans s2) (Dq.up s2.bb _ _ dv)⟩
/-- k not in d, d owned -/
theorem ed_dnotinOwn {ms : List (Int × D)} {k : Int} (e : δ[i]? = some (.own (.m (kvD ms)))) (hk : ED K tb δ (.int k)) : ED K (tDNotIn tb (tVar i)) δ (.bool (kget k ms).isNone) := fun B0 H0 B H σ Q S q =>
  hk B0 H0 B H σ _ S fun w B1 H1 s1 b => by
    cases Dq.int_inv b
    obtain ⟨p, vs, a1, hp, bp, h0, dp⟩ := (S.step s1).slotMap e
    obtain ⟨g1, g2⟩ := dqkv_get (k := k) dp
    refine ⟨_, a1, p, valV vs (Sum.inl k), rfl, DGet.k (k := Sum.inl k) hp, ?_⟩
    cases e : kget k ms with
    | none => rw [g2 e]; rw [e] at q; exact q _ B1 H1 s1 (.bl _)
    | some d =>
      obtain ⟨v, ev, _⟩ := g1 d e
      rw [ev]; rw [e] at q; exact q _ B1 H1 s1 (.bl _)
/-- x = {k: v} -/
theorem wp_asgDisp1 {tv : TE} {k : Int} (hk : ED K tb δ (.int k)) (hv : ED K tv δ d) (q : E.nx (δ.set i (.own (.m (kvD [(k, d)]))))) : WP K (tAsg (tDisp [(tb, tv)]) (gName i)) E δ := fun B0 H0 B H σ D L S => fun p np => by
  have sN : Stp B H B (upd H p (.dK [])) := .newOwn S.hist.bh np
  refine hk B0 H0 B _ σ _ (S.step sN) fun w B1 H1 s1 b => hv B0 H0 B1 H1 σ _ ((S.step sN).step s1) fun v B2 H2 s2 dv => ?_
  cases Dq.int_inv b
  have st := (sN.trans s1).trans s2
  have hp2 : H2 p = some (.dK []) := (s1.trans s2).hh.at upd_same
  have bp2 : B2 p = none := (s1.trans s2).fr p (by rw [upd_same]; exact fun z => nomatch z) (S.hist.bh.free np)
  refine ⟨hp2, [(Sum.inl k, v)], rfl, (by show 1 ≤ 15; decide), ?_⟩
  have S2 := (S.step st).updFree (u := .dK [((Sum.inl k : Key), v)]) bp2 (S.hist.hh.free np) (new_foot (S := S) np) (.inr ⟨_, hp2, (fun _ z => nomatch z), (fun _ z => nomatch z)⟩) (fun _ z => nomatch z)
  refine L.nx _ _ B2 _ (S2.set (x := .own (.m (kvD [(k, d)]))) ⟨p, _, rfl, upd_same, bp2, S.hist.hh.free np, _, rfl, .cons (.int _) dv .nil⟩ fun z mz => ?_) q
  rw [List.mem_singleton.mp mz]
  exact fun j t o _ e1 e2 => new_foot (S := S) np j t o e1 e2
/-- x = xs.pop(), xs owned -/
theorem wp_pop {j : Nat} (e : δ[i]? = some (.own (.l (ds ++ [d])))) (q : E.nx ((δ.set i (.own (.l ds))).set j (.val d))) : WP K (tAsg (tBM0 K "list" rPop (tVar i)) (gName j)) E δ := fun B0 H0 B H σ D L S => by
  obtain ⟨p, vs, a1, hp, bp, h0, dp⟩ := S.slotOwn e
  have hl : vs.length = ds.length + 1 := by rw [dp.len, List.length_append]; rfl
  obtain ⟨y, hy, dy⟩ := dp.get (i := ds.length) (d := d) (by simp)
  refine ⟨_, a1, .inl ⟨rfl, vs, .inl (.inl hp)⟩, p, vs, y, rfl, rfl, hp, by rw [hl]; exact hy, L.nx _ _ B _ ?_ q⟩
  refine (own_upd (yo := .l ds) (u := .lst vs.dropLast) S e a1 bp h0 ⟨_, rfl, ?_⟩).setVal dy
  have := dp.take ds.length
  rw [List.take_left'] at this
  · rw [List.dropLast_eq_take, hl]; exact this
  · rfl
theorem et_truthOwn (e : δ[i]? = some (.own (.l ds))) : ET K (tTruQ K (tVar i)) δ (!ds.isEmpty) := fun B0 H0 B H σ Q S q => by
  obtain ⟨p, vs, a1, hp, bp, h0, dp⟩ := S.slotOwn e
  exact ⟨_, a1, _, .inl ⟨vs, .inl (.inl hp), rfl⟩, by rw [emp_len dp.len]; exact q B H (.refl S.hist.bh)⟩
/-- xs.reverse(), xs owned -/
theorem wp_reverse (e : δ[i]? = some (.own (.l ds))) (q : E.nx (δ.set i (.own (.l ds.reverse)))) : WP K (tDrop (tBM0 K "list" rReverse (tVar i))) E δ := fun B0 H0 B H σ D L S => by
  obtain ⟨p, vs, a1, hp, bp, h0, dp⟩ := S.slotOwn e
  exact ⟨_, a1, .inl ⟨rfl, vs, .inl (.inl hp)⟩, p, vs, rfl, rfl, hp, L.nx _ _ B _ (own_upd (yo := .l _) S e a1 bp h0 ⟨_, rfl, dqall_rev dp⟩) q⟩
/-! ### the keys of a dict -/
theorem Stp.unlock {a : Addr} {od : Obj} {ks : List (Key × V)} (bh : Bh B H) (hd : B a = some (.dK ks)) (s : Stp (upd B a (.frz od (.dK ks))) (upd H a (.frz od (.dK ks))) B' H') : B' a = some (.frz od (.dK ks)) ∧ H' a = some (.frz od (.dK ks)) ∧ Stp B H (upd B' a (.dK ks)) (upd H' a (.dK ks)) := by
  have b1 : B' a = some (.frz od (.dK ks)) := s.bb.at upd_same
  have b2 := s.bh.at b1
  refine ⟨b1, b2, fun z o e => ?_, ⟨fun z o e => ?_, s.bh.tb.upd (.inr ⟨_, b2, (fun _ z => nomatch z), (fun _ z => nomatch z)⟩) (fun _ z => nomatch z)⟩, fun z o e => ?_, fun z q w => ?_⟩
  · by_cases x : z = a
    · subst x; rw [hd] at e; rw [upd_same]; exact ⟨o, e, fun _ => rfl⟩
    · rw [upd_ne x]; exact s.bb _ _ (by rw [upd_ne x]; exact e)
  · by_cases x : z = a
    · subst x; rw [upd_same] at e ⊢; exact ⟨o, e, fun _ => rfl⟩
    · rw [upd_ne x] at e ⊢; exact s.bh.sm _ _ e
  · by_cases x : z = a
    · subst x; rw [bh.at hd] at e; rw [upd_same]; exact ⟨o, e, fun _ => rfl⟩
    · rw [upd_ne x]; exact s.hh _ _ (by rw [upd_ne x]; exact e)
  · have x : z ≠ a := fun x => by subst x; rw [hd] at w; cases w
    rw [upd_ne x]
    exact s.fr z (by rw [upd_ne x]; exact q) (by rw [upd_ne x]; exact w)
theorem dqkv_key : ∀ {ms : List (Int × D)} {vs : List (Key × V)} {n : Nat} {k : Key} {v : V}, DqKv K B vs (kvD ms) → vs[n]? = some (k, v) → ∃ q, ms[n]? = some q ∧ kV k = .int q.1
  | [], _, n, _, _, h, e => by cases h; cases n <;> cases e
  | (j, d0) :: ms, _, n, _, _, h, e => by
    cases h with
    | cons h1 h2 h3 =>
      cases n with
      | zero => cases e; exact ⟨_, rfl, Dq.int_inv h1⟩
      | succ n => exact dqkv_key (ms := ms) (n := n) h3 e
theorem en_lcKeys {mm : Nat} {ms : List (Int × D)} {g : TG} {tt : TT} {vs : List Nat} {p : Int → Bool} {f : Int → D} {af : Int → List SV} (e : δ[mm]? = some (.val (.dict (kvD ms)))) (hl : ms.length ≤ sizeLine)
    (hg : ∀ x, x ∈ ms.map Prod.fst → GW K g vs (wipeD δ vs) (.int x) (af x)) (ht : ∀ x, x ∈ ms.map Prod.fst → ET K tt (af x) (p x)) (he : ∀ x, x ∈ ms.map Prod.fst → p x = true → ED K te (af x) (f x)) : EN K (tLkE (tLc (iKeys (tVar mm)) g tt te vs)) δ (((ms.map Prod.fst).filter p).map f) := by
  have core : ∀ (B0 H0 B H : Hp) (σ : L2.St) (Q : VK) (a : Addr) (o : Obj) (ks : List (Key × V)), Sd K B0 H0 B H σ δ → σ[mm]? = some (some (.ref a)) → B a = some (.frz o (.dK ks)) → DqKv K B ks (kvD ms) →
      (∀ l ws B' H', Stp B H B' H' → H l = none → B' l = none → H' l = some (.lst ws) → DqAll K B' ws (((ms.map Prod.fst).filter p).map f) → Q (.ref l) H') → tLc (iKeys (tVar mm)) g tt te vs σ H Q := fun B0 H0 B H σ Q a o ks S hm hB hkv q => by
    refine lcW_at (xs := ms.map Prod.fst) (gd := PyData.int) S (fun R k => ?_) (by rw [List.length_map]; exact hl) hg ht he q
    have hkl : ks.length = ms.length := by rw [hkv.len]; unfold kvD; rw [List.length_map]
    refine ⟨_, hm, a, o, rfl, .inl ⟨ks, S.hist.bh.at hB, k _ B H (.refl S.hist.bh) fun B1 H1 n e1 e2 => ?_⟩⟩
    have hH1 := e2.at (e1.at hB)
    rw [List.length_map, List.length_map]
    refine ⟨fun hn => ⟨⟨hH1, by omega⟩, fun x H' yl => ?_⟩, fun hn => ⟨hH1, by omega⟩⟩
    obtain ⟨rfl, kk, v, ek, rfl⟩ := yl
    obtain ⟨qq, eq, kq⟩ := dqkv_key hkv ek
    exact ⟨B1, .int qq.1, .refl e2, by rw [List.getElem?_map, List.getElem?_map, eq]; rfl, by rw [kq]; exact .int _⟩
  intro B0 H0 B H σ Q S q
  obtain ⟨v, hm, dv⟩ := S.slot e
  cases dv with
  | @dct a ks _ hr hkv =>
    rcases hr with hr | ⟨o, hr⟩
    · refine .inl ⟨a, .dK ks, S.hist.bh.at hr, True.intro, fun od => ?_⟩
      refine core _ _ _ _ σ _ a od ks (S.lock hr) hm upd_same (L2.DqKv.rd (rdTo_frz hr) _ _ hkv) fun l ws B' H' st nl bl hl da => ?_
      obtain ⟨z0, z1, z2⟩ := Stp.unlock S.hist.bh hr st
      have hla : l ≠ a := fun z => by subst z; rw [upd_same] at nl; cases nl
      refine ⟨z1, q l ws _ _ z2 (by rw [upd_ne hla] at nl; exact nl) (by rw [upd_ne hla]; exact bl) (by rw [upd_ne hla]; exact hl) (L2.DqAll.rd (rdTo_thaw z0) _ _ da)⟩
    · exact .inr (core B0 H0 B H σ Q a o ks S hm hr hkv q)
end
section
variable {P : Program} {w : World} {K : PySem.W.Frag} {mg : Str → Option Value} {base : Heap} {C : Addr}
theorem ok_wpRG {G : Type} {x qual : Str} {st : Stmt} {f : Addr} {fd : FuncData} {N ps : List Str} {k : Nat} {Pre : G → FsD → List D → Prop} {Post : G → D → Prop} (F : Fun K x qual st f fd) (S : FnScope N ps (defScope st)) (hN : ps.length ≤ N.length) (len : ∀ g fs ds, Pre g fs ds → 1 + ds.length = ps.length)
    (hb : ∀ (cdv : Value), fd.code = cdv → ∀ (A : Around) (outer : List Env) (s : Shared) (H : Hp) (E : XK), Room k (A.deeper (PyProof.Rows.envOfC qual (defScope st) s.heap.objs.size f cdv)) →
      ∃ t, PSs (cxOf CX0 P w K mg base N qual (defScope st) f cdv A outer s H E).nox (defBody st) t ∧ ∀ g fs ds, Pre g fs ds → WP K t { nx := fun _ => Post g .none, rt := fun d' => Post g d' } (startR N C fs ds)) : FnOk P w K mg base CX0 (k + 1) f fd ps (spRG K C Pre Post) := by
  refine F.okC S (fun vs H Q E h => ?_) (fun cdv hcv A outer s H vs Q E hr h => ?_)
  · obtain ⟨B, p, dx, ws, fs, us, ds, g, rfl, r, bh, hp, fw, hf, a, _⟩ := h
    rw [List.length_cons, a.len, ← len g fs ds r]; omega
  · obtain ⟨t, ht, q⟩ := hb cdv hcv A outer s H E hr
    refine ⟨t, ht, ?_⟩
    obtain ⟨B, p, dx, ws, fs, us, ds, g, rfl, r, bh, hp, fw, hf, a, hq⟩ := h
    refine q g fs ds r B H B H _ _ ⟨fun σ' H' B' δ' S' e => ?_, fun v B' H' d' hh dv e => ?_, fun _ _ _ _ _ z => z.elim, fun _ _ _ _ _ z => z.elim, fun _ _ _ _ _ _ _ _ _ _ z => z.elim, fun _ _ _ _ _ _ _ _ z => z.elim⟩ (start_sdR (by have := len g fs ds r; omega) bh hp fw hf a)
    · exact hq _ B' H' _ ⟨S'.hist.bb, S'.hist.bh, S'.hist.hh, S'.hist.fr⟩ .non e
    · exact hq v B' H' _ ⟨hh.bb, hh.bh, hh.hh, hh.fr⟩ dv e
/-- a def whose answer is a new list, with a ghost -/
def spNG {G : Type} (K : PySem.W.Frag) (Pre : G → List D → Prop) (Post : G → List D → Prop) : Sp := fun vs H Q _ => ∃ B ds g, Pre g ds ∧ Bh B H ∧ DqAll K B vs ds ∧ ∀ p ws B' H' es, Stp B H B' H' → H p = none → B' p = none → H' p = some (.lst ws) → DqAll K B' ws es → Post g es → Q (.ref p) H'
/-- xs = a keys' comprehension, locked -/
theorem wp_lkN {δ : List SV} {te : TE} {ds : List D} {E : EndsD} {i : Nat} (h : EN K (tLkE te) δ ds) (q : E.nx (δ.set i (.own (.l ds)))) : WP K (tLk (tAsg te (gName i))) E δ := fun B0 H0 B H σ D L S => by
  have := wp_asgN h q B0 H0 B H σ D L S
  rcases this with ⟨d, u, hd, mu, w⟩ | w
  · exact .inl ⟨d, u, hd, mu, fun od => w od⟩
  · exact .inr w
/-- an own list and a new one -/
theorem en_catOV {δ : List SV} {tb : TE} {ds es : List D} {i : Nat} (e : δ[i]? = some (.own (.l ds))) (hb : EN K tb δ es) (hl : ds.length + es.length ≤ sizeLine) : EN K (tOp (rCatA K) (tVar i) tb) δ (ds ++ es) := fun B0 H0 B H σ Q S q => by
  obtain ⟨p, vs, a1, _⟩ := S.slotOwn e
  refine ⟨_, a1, hb B0 H0 B H σ _ S fun p2 ws B2 H2 s2 n2 b2 e2 a2 => ?_⟩
  obtain ⟨p', vs', b1, hp, bp, h0, dp⟩ := (S.step s2).slotOwn e
  rw [a1] at b1; cases b1
  exact .inl ⟨p, p2, vs', ws, rfl, rfl, hp, e2, by rw [dp.len, a2.len]; exact hl, fun l hl => q l _ B2 _ (s2.trans (.newOwn s2.bh hl)) (s2.hh.free hl) (s2.bh.free hl) upd_same (dp.app a2)⟩
end
end DX

namespace LamK
open PySem L2 LamX PySem.Spec PyProof.Rows
/-! ### a lambda with one parameter, handed to min or max -/
structure LamOne (a : Str) (sc sco : Scope) : Prop where
  kind : sco.kind = .function
  co : sco.isCoroutine = false
  gen : sco.isGenerator = false
  own : ∀ nm ∈ sco.names, nm.2 ≠ .cell ∧ (nm.2 = .local → nm.1 = a)
  par : sco.names.lookup a = some .local
  free : ∀ nm ∈ sco.names, nm.2 = .free → sc.names.lookup nm.1 = some .cell ∨ sc.names.lookup nm.1 = some .free
def lamOneB (a : Str) (sc sco : Scope) : Bool :=
  decide (sco.kind = .function) && !sco.isCoroutine && !sco.isGenerator && decide (sco.names.lookup a = some .local) && sco.names.all fun nm => !decide (nm.2 = .cell) && (!decide (nm.2 = .local) || decide (nm.1 = a)) && (!decide (nm.2 = .free) || decide (sc.names.lookup nm.1 = some .cell) || decide (sc.names.lookup nm.1 = some .free))
theorem lamOne_by {a : Str} {sc sco : Scope} (h : lamOneB a sc sco = true) : LamOne a sc sco := by
  unfold lamOneB at h
  simp only [List.all_eq_true, decide_eq_true_eq, decide_eq_false_iff_not, Bool.not_eq_true', Bool.and_eq_true, Bool.or_eq_true] at h
  obtain ⟨⟨⟨⟨h1, h2⟩, h3⟩, h4⟩, h5⟩ := h
  refine ⟨h1, h2, h3, fun nm hy => ⟨(h5 nm hy).1.1, fun e => ?_⟩, h4, fun nm hy e => ?_⟩
  · rcases (h5 nm hy).1.2 with z | z
    · exact absurd e z
    · exact z
  · rcases (h5 nm hy).2 with (z | z) | z
    · exact absurd e z
    · exact .inl z
    · exact .inr z
theorem LamOne.has {X : Cx} {a : Str} {sco : Scope} (M1 : LamOne a X.env.scope sco) (ok : X.Ok) : ∀ nm ∈ sco.names, nm.2 = .free → ∃ c, X.env.cells.lookup nm.1 = some c := fun nm hy e => by
  rcases M1.free nm hy e with k | k
  · exact ok.has _ (.inl k)
  · exact ok.has _ (.inr k)
/-- the context of the lambda's what, entered at s from the frames out -/
def lamCtx (X : Cx) (A : Around) (out : List Env) (s : Shared) (H : Hp) (sco : Scope) (f c' : Addr) : Cx where
  prog := X.prog
  w := X.w
  K := X.K
  mg := X.mg
  base := X.base
  A := A.deeper (lamEnv X sco s.heap.objs.size f c')
  N := X.N
  s_0 := s
  H_0 := H
  env := lamEnv X sco s.heap.objs.size f c'
  outer := out
  stack := lamEnv X sco s.heap.objs.size f c' :: out
  ex := []
  fn := fun _ => false
  calm := true
  pn := []
  xe := fun e s' => wpAny (model X.prog X.w) (A.deeper (lamEnv X sco s.heap.objs.size f c')) (leaving (lamEnv X sco s.heap.objs.size f c') e) (fun _ s'' => False) (fun e' s'' => False) s'
section
variable {X : Cx} {pins : List (Addr × Obj)} {σ : L2.St} {s s1 : Shared} {H HZ : Hp}
theorem lam_enter {A : Around} {out : List Env} {sco : Scope} {f c' : Addr} {h₁ : Heap} {tk pi : Nat} {a : Str} {x : V} {u : Value} (I : Inv X pins σ H s) (M1 : LamOne a X.env.scope sco) (nd : X.N.Nodup) (hip : X.N[pi]? = some a) (rel : RelV x u) (ent : Env0 X.prog X.w X.K X.mg X.base A out s H) (hd : A.handled = none)
    (spaceOk : h₁.Ns s.heap.objs.size fun nm => ([(a, u)] : List (Str × Value)).reverse.lookup nm) (stays : ∀ b o, s.heap.get? b = some o → h₁.get? b = some o) :
    Inv (lamCtx X A out s H sco f c') [] (σ.set pi (some x)) H { s with heap := h₁, toks := tk } := by
  have hfr := M1.has I.ok
  have cellOf : ∀ {nm c}, (cloFrom X.env.cells sco.names []).lookup nm = some c → X.env.cells.lookup nm = some c := fun {nm c} e => by
    rcases cloFrom_mem (PySem.mem_of_lookup e) with old | ⟨h1, h2⟩
    · cases old
    · obtain ⟨q1, hc⟩ := hfr _ h1 rfl
      have hc : X.env.cells.lookup nm = some q1 := hc
      have e2 : c = q1 := by
        rw [h2, hc] <;> rfl
      rw [e2]
      exact hc
  have caught : ∀ {nm}, sco.names.lookup nm = some .free → ∃ c, (cloFrom X.env.cells sco.names []).lookup nm = some c := fun {nm} hl => by
    have hy : (nm, NameKind.free) ∈ sco.names := PySem.mem_of_lookup hl
    exact mem_lookup (cloFrom_has (acc := []) (cells := X.env.cells) hy)
  have cellStay : ∀ {c : Addr} {v : Option Value}, s.heap.IsCell c v → h₁.IsCell c v := fun {c v} ⟨o, ho, hd⟩ => ⟨o, stays _ _ ho, hd⟩
  have noEx : ∀ b : Addr, b ∉ (lamCtx X A out s H sco f c').ex := fun b z => absurd (show b ∈ ([] : List Addr) from z) (by simp)
  refine ⟨⟨ent.mod, M1.kind, rfl, rfl, Nat.le_refl _, fun nm z c e1 e2 => I.ok.inj nm z c (cellOf e1) (cellOf e2), fun nm hy => ?_, fun nm c z _ => ?_, fun _ => hd, Around.frames_deeper ent.frames, .inr ⟨rfl, rfl⟩, fun b z => absurd z (noEx b), ent.bs, ent.bsz, fun b _ _ => noEx b,
      fun b z => absurd z (noEx b), ent.funs, ent.frf⟩,
    rfl, ent.bare, Un.kept stays, ⟨_, spaceOk, fun i nm v e1 e2 e3 => ?_⟩, fun nm c e => ?_, ent.hok.fresh (Nat.le_refl _), fun nm c e => ?_, fun q hq => absurd (show q ∈ ([] : List (Addr × Obj)) ++ [] from hq) (by simp), ent.hok.kept stays, by rw [List.length_set]; exact I.len⟩
  · have hy : sco.names.lookup nm = some .cell ∨ sco.names.lookup nm = some .free := hy
    rcases hy with hy | hy
    · exact absurd rfl (M1.own _ (PySem.mem_of_lookup hy)).1
    · exact caught hy
  · have z : false = true := z
    cases z
  · have e3 : Vis sco nm := e3
    have e1 : X.N[i]? = some nm := e1
    rcases e3 with k | k | k
    · have ey : nm = a := (M1.own _ (PySem.mem_of_lookup k)).2 rfl
      subst ey
      have ei : pi = i := (List.getElem?_inj (List.getElem?_eq_some_iff.mp hip).1 nd).mp (hip.trans e1.symm)
      subst ei
      have hl : pi < σ.length := by rw [I.len]; exact (List.getElem?_eq_some_iff.mp hip).1
      rw [List.getElem?_set_self hl] at e2
      have e2 : x = v := Option.some.inj (Option.some.inj e2)
      subst e2
      exact ⟨u, rel, .inl ⟨k, by simp [List.lookup]⟩⟩
    · exact absurd rfl (M1.own _ (PySem.mem_of_lookup k)).1
    · have nya : nm ≠ a := fun z => by
        subst z
        have k : sco.names.lookup nm = some .free := k
        rw [M1.par] at k; cases k
      have nip : pi ≠ i := fun z => by
        subst z
        rw [hip] at e1
        exact nya (Option.some.inj e1).symm
      rw [List.getElem?_set_ne nip] at e2
      obtain ⟨m, hn, hl⟩ := I.loc
      have hvis : Vis X.env.scope nm := (M1.free _ (PySem.mem_of_lookup k) rfl).elim (fun k => .inr (.inl k)) (fun k => .inr (.inr k))
      obtain ⟨w', rel, q⟩ := hl i nm v e1 e2 hvis
      obtain ⟨q2, h2⟩ := caught k
      refine ⟨w', rel, .inr ⟨.inr k, q2, h2, ?_⟩⟩
      have q1 := cellOf h2
      rcases q with ⟨k', _⟩ | ⟨_, q3, e', z⟩
      · have k' : X.env.scope.names.lookup nm = some .local := k'
        rcases M1.free _ (PySem.mem_of_lookup k) rfl with k2 | k2 <;> rw [show X.env.scope.names.lookup nm = _ from k2] at k' <;> cases k'
      · rw [q1] at e'
        cases e'
        exact cellStay z
  · obtain ⟨w', z⟩ := I.cell nm c (cellOf e)
    exact ⟨w', cellStay z⟩
  · exact I.freeC nm c (cellOf e)
/-- the lambda is called -/
theorem lam_call {sco : Scope} {f c' : Addr} {md ctw : Value} {prs : Arguments} {what : Expr} {k pi : Nat} {a : Str} {x : V} {u : Value} {tb : TE} {Q : VK} {E : Value → Shared → Prop} (I : Inv X pins σ H s) (M1 : LamOne a X.env.scope sco) (nd : X.N.Nodup) (hip : X.N[pi]? = some a) (rel : RelV x u)
    (hf : s.heap.get? f = some (PySem.W.kla_obj "<lambda>" (X.env.qual ++ "<lambda>") prs what sco (cloFrom X.env.cells sco.names []) md c' ctw)) (hco : H c' = some (CodeO c' (X.env.qual ++ "<lambda>")))
    (hbind : bindArgs (PySem.W.kla_fn "<lambda>" (X.env.qual ++ "<lambda>") prs what sco (cloFrom X.env.cells sco.names []) md (.ref c') ctw) ⟨[u], []⟩ = pure [(a, u)])
    (hr : Room (k + 2) X.A) (hbody : ∀ (A : Around) (out : List Env) (s : Shared) (H : Hp), Room k (A.deeper (lamEnv X sco s.heap.objs.size f c')) → PE (lamCtx X A out s H sco f c') what tb)
    (ht : tb (σ.set pi (some x)) H Q) : wpAny (model X.prog X.w) X.A.in1 (call (.ref f) [u]) (fun r s' => ∃ v H', Inv X pins σ H' s' ∧ RelV v r ∧ Q v H' ∧ Un (frs X.stack) [] H H' s.heap s'.heap) E s := by
  have hr1 : Room (k + 1) X.A.in1 := hr.in1
  have ent : Env0 X.prog X.w X.K X.mg X.base X.A.in1 X.stack s H := I.env0.in1
  obtain ⟨⟨oc, vs, t, hoc, hdc, hvc⟩, _, _⟩ := I.hok c' _ hco
  have rc : codeAny (model X.prog X.w) X.A.in1 (.call (.ref f) ⟨[u], []⟩) (CR (fun _ _ _ _ _ _ => False) X.stack X.prog X.w H s Q (fun _ _ _ => False)) s := by
    refine PySem.W.kla_callFunE hr1.depth hf rfl M1.co M1.gen rfl ⟨c', oc, vs, t, rfl, hoc, hdc, hvc⟩ ?_
    rw [hbind]
    refine wpAny_pure (wpAny_newFunctionEnv (fun nm hy => (M1.own nm hy).1) (fun nm hy => by rw [List.mem_singleton.mp hy]; exact M1.par) (fun h₁ spaceOk hsb => ⟨I.nolimit.fresh _ hsb, ?_⟩) M1.kind)
    show codeAny _ _ (.expr what (lamEnv X sco s.heap.objs.size f c')) _ _
    have stays : ∀ b o, s.heap.get? b = some o → h₁.get? b = some o := fun b o e => hsb.extBut b o (Nat.ne_of_lt (Heap.lt_size e)) (Heap.get?_push_of_some _ e)
    have J : Inv (lamCtx X X.A.in1 X.stack s H sco f c') [] (σ.set pi (some x)) H { s with heap := h₁, toks := s.toks + ([(a, u)] : List (Str × Value)).length } :=
      lam_enter I M1 nd hip rel ent hr1.hd spaceOk stays
    refine PySem.W.kla_codeExpr (wpAny_mono ((hbody _ _ s H (hr1.deeper _)).run [] _ _ H Q J ht) (fun v s' hq => ?_) fun e s' hq => hq)
    obtain ⟨wv, Hn, Jn, rv, qq⟩ := hq
    exact ⟨wv, Hn, Jn.os, Jn.bare, Jn.base, Jn.hok, rv, qq⟩
  refine wpAny_call (codeAny_mono rc fun rel s2 hq => ?_)
  cases rel with
  | error e => exact (show False from hq).elim
  | ok fl =>
    cases fl with
    | ret u =>
      obtain ⟨v, H', os, bare, un, hok, r, q⟩ := hq
      obtain ⟨v2, H2, I2, r2, rfl, rfl⟩ := I.after (Q := fun v2 H2 => v2 = v ∧ H2 = H') ⟨v, H', os, bare, un, hok, r, rfl, rfl⟩
      exact ⟨_, _, I2, r2, q, un⟩
    | next => exact False.elim hq
    | brk => exact False.elim hq
    | cont => exact False.elim hq
theorem far_frs (I : Inv X pins σ H s) {g : Addr} (h : s.heap.objs.size ≤ g) : g ∉ frs X.stack := fun m => by
  rcases List.mem_cons.mp (I.stkSub _ m) with z | z
  · exact absurd (Nat.lt_of_lt_of_le I.lt h) (by rw [z]; exact Nat.lt_irrefl _)
  · exact I.nofs h z
theorem codeO_tbl {c : Addr} {q : Str} : NT (CodeO c q) := fun ps z => by
  unfold CodeO at z
  cases z
/-- the lambda's function is made -/
theorem lam_mk [G : TabEnv] {c P : Addr} {prs : Arguments} {what : Expr} {sco : Scope} {pos : Pos} {E Q : Value → Shared → Prop} (I : Inv X pins σ H s) (tb : TabsG H) (TB : TabB X.base X.mg c P) (hcode : X.env.code = .ref c) (hm : (P, X.env.qual ++ "<lambda>") ∈ G.T)
    (hdef : defaultsOf prs X.env = ([], [])) (hfr : ∀ n ∈ sco.names, n.2 = .free → ∃ z, X.env.cells.lookup n.1 = some z)
    (go : ∀ (f c' : Addr) (md ctw : Value) (H1 : Hp) (s1 : Shared), Inv X pins σ H1 s1 → Sam H H1 → TabsG H1 →
      s1.heap.get? f = some (PySem.W.kla_obj "<lambda>" (X.env.qual ++ "<lambda>") prs what sco (cloFrom X.env.cells sco.names []) md c' ctw) → H1 f = none → f ∉ frs X.stack → H1 c' = some (CodeO c' (X.env.qual ++ "<lambda>")) → Q (.ref f) s1) :
    wpAny (model X.prog X.w) X.A (eval (.Lambda prs what sco pos) X.env) Q E s := by
  obtain ⟨ps, hP, tr, codes⟩ := tb _ hm
  have hPs : s.heap.get? P = some { cls := .none, data := .fields ps } := I.hok P _ hP
  refine PySem.W.kla_eval hdef ?_
  cases seen : codeAmong pos ps.toList with
  | some cv =>
    obtain ⟨c', rfl, hco⟩ := codes pos cv seen
    refine PySem.W.kla_makeFunctionHit (mg := X.mg) (c := c) (P := P) (ps := ps) (closure_ok hfr) I.ok.glob (I.mod.glob.keeps I.bk) hcode (TB.code.keeps I.bk) hPs tr seen (TB.bm.keeps I.bk) fun ctw hh tk hx hz => ?_
    exact go _ c' _ ctw H _ (I.kept fun b o e => Heap.get?_push_of_some _ (hx b o e)) (Sam.refl H) tb (Heap.get?_push_size _ rfl) (I.hok.fresh hz) (far_frs I hz) hco
  | none =>
    refine PySem.W.kla_makeFunction (mg := X.mg) (c := c) (P := P) (ps := ps) (closure_ok hfr) I.ok.glob (I.mod.glob.keeps I.bk) hcode (TB.code.keeps I.bk) hPs tr seen TB.gP (TB.bm.keeps I.bk) fun c' ctw hh tk hx hge hlt rec ht => ?_
    obtain ⟨c2, oc, ws, t, e2, hoc, hd, hv⟩ := rec
    cases e2
    have hz : s.heap.objs.size ≤ hh.objs.size := Nat.le_trans hge (Nat.le_of_lt hlt)
    have fresh : H c' = none := I.hok.fresh hge
    have nPc : P ≠ c' := ne_of_none hP fresh
    have atP : upd (upd H P (.tbl (ps ++ #[rawInt pos.line, rawInt pos.col, .ref c']))) c' (CodeO c' (X.env.qual ++ "<lambda>")) P = some (.tbl (ps ++ #[rawInt pos.line, rawInt pos.col, .ref c'])) := by rw [upd_ne nPc, upd_same]
    have sam : Sam H (upd (upd H P (.tbl (ps ++ #[rawInt pos.line, rawInt pos.col, .ref c']))) c' (CodeO c' (X.env.qual ++ "<lambda>"))) := fun b o e => by
      by_cases hb : b = P
      · subst hb
        rw [hP] at e; cases e
        exact ⟨_, atP, fun n => absurd rfl (n ps)⟩
      · exact ⟨o, by rw [upd_ne (ne_of_none e fresh), upd_ne hb]; exact e, fun _ => rfl⟩
    refine go hh.objs.size c' _ ctw _ _ (inv_table (t' := tk) (more := #[rawInt pos.line, rawInt pos.col, .ref c']) I hP (fun b o hb e => Heap.get?_push_of_some _ (hx b o hb e)) (Heap.get?_push_of_some _ ht) hge ⟨oc, ws, t, Heap.get?_push_of_some _ hoc, hd, hv⟩) sam (fun q mq => ?_) (Heap.get?_push_size _ rfl) ?_ (far_frs I hz) upd_same
    · by_cases hq : q.1 = P
      · rw [G.un q mq _ hm hq, hq]
        have el : (ps ++ #[rawInt pos.line, rawInt pos.col, .ref c']).toList = ps.toList ++ [rawInt pos.line, rawInt pos.col, .ref c'] := by simp
        refine ⟨_, atP, by rw [el]; exact PySem.TriplesOk_snoc _ _ _ _ tr, fun p2 cv h2 => ?_⟩
        rw [el] at h2
        rcases among_app _ tr h2 with z | z
        · obtain ⟨z1, z2, z3⟩ := codes p2 cv z
          exact ⟨z1, z2, sam.at z3 codeO_tbl⟩
        · exact ⟨c', z, upd_same⟩
      · obtain ⟨ps2, e1, e2, e3⟩ := tb q mq
        refine ⟨ps2, by rw [upd_ne (ne_of_none e1 fresh), upd_ne hq]; exact e1, e2, fun p2 cv h2 => ?_⟩
        obtain ⟨z1, z2, z3⟩ := e3 p2 cv h2
        exact ⟨z1, z2, sam.at z3 codeO_tbl⟩
    · rw [upd_ne (Nat.ne_of_gt hlt), upd_ne (Nat.ne_of_gt (Nat.lt_of_lt_of_le (Heap.lt_size hPs) hz))]
      exact I.hok.fresh hz
end
end LamK

namespace LamK
open PySem L2 LamX PySem.Spec PyProof.Rows
/-! ### the walk over a list whose object may be written by equal values -/
theorem walks_vals {P : Program} {w : World} {A : Around} (hh : A.handled = none) (I ax : Addr) (hne : ax ≠ I) (xs : List V) :
    WalksS P w A I [I, ax] [I] (fun a b => b = a) xs.length (fun i v => ∃ y, xs[i]? = some y ∧ RelV y v) (fun i s => s.heap.IsListIter I ax i ∧ ∃ its : List Value, Vals xs its ∧ s.heap.IsList ax its.toArray) where
  sub := fun b mb => by simp at mb; simp [mb]
  grefl := fun _ => rfl
  gtrans := fun _ _ _ first then_ => then_.trans first
  frame := fun i s h' tk ⟨st, its, r, hl⟩ _ hk => by
    have W := Walks.list (prog := P) (w := w) (A := A) hh I ax hne its.toArray
    obtain ⟨a, b⟩ := W.frame i s.heap h' ⟨st, hl⟩ hk
    exact ⟨a, its, r, b⟩
  item := fun i s Q E hi ⟨st, its, r, hl⟩ hQ => by
    have W := (Walks.list (prog := P) (w := w) (A := A) hh I ax hne its.toArray).toS
    have hl2 := r.length
    refine W.item i s Q E (by rw [List.size_toArray]; omega) ⟨st, hl⟩ fun v s' hP st' hm => hQ v s' ?_ ⟨st'.1, its, r, st'.2⟩ hm
    have hv : its[i]? = some v := by simpa using hP
    obtain ⟨y, hy⟩ : ∃ y, xs[i]? = some y := ⟨_, List.getElem?_eq_getElem hi⟩
    obtain ⟨uu, hu, ru⟩ := r.get hy
    rw [hv] at hu
    cases hu
    exact ⟨y, hy, ru⟩
  done := fun s Q E ⟨st, its, r, hl⟩ hQ => by
    have W := (Walks.list (prog := P) (w := w) (A := A) hh I ax hne its.toArray).toS
    have hl2 := r.length
    exact W.done s Q E (by rw [List.size_toArray, ← hl2]; exact ⟨st, hl⟩) hQ
  self := fun i s Q E ⟨st, its, r, hl⟩ h => by
    have W := (Walks.list (prog := P) (w := w) (A := A) hh I ax hne its.toArray).toS
    exact W.self i s Q E ⟨st, hl⟩ h
section
variable {X : Cx} {pins : List (Addr × Obj)} {σ : L2.St} {s s1 : Shared} {H HZ : Hp}
/-- what a key does, called for each of xs in turn: W stays, the answers are the ms -/
structure KeyW (K : PySem.W.Frag) (tk : TE) (pi : Nat) (σ : L2.St) (a : Addr) (xs : List V) (ms : Nat → Int) (W : Hp → Prop) : Prop where
  seq : ∀ H', W H' → SqL K H' a xs
  key : ∀ (i : Nat) (x : V) (H' : Hp), xs[i]? = some x → W H' → tk (σ.set pi (some x)) H' fun r H'' => r = .int (ms i) ∧ W H''
/-- what stays while the key is asked -/
structure KeyJ (X : Cx) (pins : List (Addr × Obj)) (σ : L2.St) (W : Hp → Prop) (f I0 S : Addr) (fo : Obj) (s : Shared) : Prop where
  ex : ∃ H', Inv X pins σ H' s ∧ W H' ∧ H' f = none ∧ H' I0 = none ∧ H' S = none
  fo : s.heap.get? f = some fo
theorem keyrun {op : CmpOp} {bt : Nat → Nat → Bool} {sco : Scope} {f c' I0 S ax : Addr} {md ctw : Value} {prs : Arguments} {what : Expr} {k pi : Nat} {a : Str} {tk : TE} {xs : List V} {ms : Nat → Int} {W : Hp → Prop} (M1 : LamOne a X.env.scope sco) (nd : X.N.Nodup) (hip : X.N[pi]? = some a)
    (hc : CmpOf X.prog X.w X.A.in1 op (fun i v => ∃ t, v = .int (ms i) t) bt)
    (hbind : ∀ u : Value, bindArgs (PySem.W.kla_fn "<lambda>" (X.env.qual ++ "<lambda>") prs what sco (cloFrom X.env.cells sco.names []) md (.ref c') ctw) ⟨[u], []⟩ = pure [(a, u)])
    (hr : Room (k + 2) X.A) (hbody : ∀ (A : Around) (out : List Env) (s : Shared) (H : Hp), Room k (A.deeper (lamEnv X sco s.heap.objs.size f c')) → PE (lamCtx X A out s H sco f c') what tk)
    (kw : KeyW X.K tk pi σ ax xs ms W) (hW : ∀ H', W H' → H' c' = some (CodeO c' (X.env.qual ++ "<lambda>"))) (stI : ∀ H', H' I0 = none → FpOk X pins H' I0) (stS : ∀ H', H' S = none → FpOk X pins H' S) (nfI : f ≠ I0) (nfS : f ≠ S) (ffr : f ∉ frs X.stack) (Ifr : I0 ∉ frs X.stack) (Sfr : S ∉ frs X.stack) :
    KeyRun X.prog X.w X.A.in1 (.ref f) op S [I0] (fun a b => b = a) xs.length (fun i v => ∃ y, xs[i]? = some y ∧ RelV y v) (fun i s => s.heap.IsListIter I0 ax i ∧ ∃ its : List Value, Vals xs its ∧ s.heap.IsList ax its.toArray)
      (KeyJ X pins σ W f I0 S (PySem.W.kla_obj "<lambda>" (X.env.qual ++ "<lambda>") prs what sco (cloFrom X.env.cells sco.names []) md c' ctw)) (fun i v _ => ∃ t, v = .int (ms i) t) bt where
  keep := fun s s' J m => by
    obtain ⟨⟨H', I, w, n1, n3, n4⟩, hf⟩ := J
    obtain ⟨hh, g, d, tt, os'⟩ := s'
    obtain ⟨mh, mg, md, mo, mt⟩ := m
    have mg : g = s.gens := mg
    have md : d = s.drawn := md
    have mo : os' = s.os := mo
    subst mg md mo
    refine ⟨⟨H', I.turnedL (t' := tt) (ch := [S, I0]) (fun b o hb e => mh b o hb e) (fun b hb => ?_), w, n1, n3, n4⟩, mh f _ (by simp [nfI, nfS]) hf⟩
    rcases List.mem_cons.mp hb with z | z
    · rw [z]; exact stS H' n4
    · rw [List.mem_singleton.mp z]; exact stI H' n3
  keepV := fun i k s s' h _ => h
  turn := fun i v s o Q E hi hP J hst hS hQ => by
    obtain ⟨y, hy, ry⟩ := hP
    obtain ⟨⟨H', I, w, n1, n3, n4⟩, hf⟩ := J
    refine wpAny_mono (lam_call (Q := fun r H'' => r = .int (ms i) ∧ W H'') I M1 nd hip ry hf (hW H' w) (hbind v) hr hbody (kw.key i y H' hy w)) (fun r s' hq => ?_) fun _ _ z => z
    obtain ⟨r', H'', I'', rr, ⟨rfl, w'⟩, un⟩ := hq
    obtain ⟨t, rfl⟩ := rr
    obtain ⟨io, hio, hi2⟩ := hst.1
    have hf' := un.keep f _ hf n1 ffr (by simp)
    have hI' := un.keep I0 _ hio n3 Ifr (by simp)
    have hS' := un.keep S _ hS n4 Sfr (by simp)
    obtain ⟨its, rv, pl, hz⟩ := I''.list (kw.seq H'' w')
    exact hQ _ s' ⟨⟨H'', I'', w', un.free f _ hf n1 (by simp), un.free I0 _ hio n3 (by simp), un.free S _ hS n4 (by simp)⟩, hf'⟩ ⟨⟨io, hI', hi2⟩, its, rv, pl.isList⟩ hS' ⟨t, rfl⟩ fun _ _ z => z
  cmp := fun i j ki kj s Q E _ h1 h2 hq => hc i j ki kj s Q E h1 h2 hq
/-- the walk is begun -/
theorem keyed {op : CmpOp} {bt : Nat → Nat → Bool} {sco : Scope} {f c' ax : Addr} {md ctw : Value} {prs : Arguments} {what : Expr} {k pi : Nat} {a : Str} {tk : TE} {xs : List V} {ms : Nat → Int} {W : Hp → Prop} {Q : Value → Shared → Prop} {E : Value → Shared → Prop}
    (I : Inv X pins σ H s) (M1 : LamOne a X.env.scope sco) (nd : X.N.Nodup) (hip : X.N[pi]? = some a) (hc : CmpOf X.prog X.w X.A.in1 op (fun i v => ∃ t, v = .int (ms i) t) bt)
    (hbind : ∀ u : Value, bindArgs (PySem.W.kla_fn "<lambda>" (X.env.qual ++ "<lambda>") prs what sco (cloFrom X.env.cells sco.names []) md (.ref c') ctw) ⟨[u], []⟩ = pure [(a, u)])
    (hr : Room (k + 2) X.A) (hbody : ∀ (A : Around) (out : List Env) (s : Shared) (H : Hp), Room k (A.deeper (lamEnv X sco s.heap.objs.size f c')) → PE (lamCtx X A out s H sco f c') what tk)
    (kw : KeyW X.K tk pi σ ax xs ms W) (hW : ∀ H', W H' → H' c' = some (CodeO c' (X.env.qual ++ "<lambda>"))) (w : W H) (ffr : f ∉ frs X.stack) (nf : H f = none)
    (hf : s.heap.get? f = some (PySem.W.kla_obj "<lambda>" (X.env.qual ++ "<lambda>") prs what sco (cloFrom X.env.cells sco.names []) md c' ctw))
    (R : ∀ (I0 : Addr) (s2 : Shared) (St : Nat → Shared → Prop) (J : Shared → Prop), WalksS X.prog X.w X.A.in1 I0 [I0, ax] [I0] (fun a b => b = a) xs.length (fun i v => ∃ y, xs[i]? = some y ∧ RelV y v) St → St 0 s2 → (∀ b ∈ [I0, ax], b < s2.heap.objs.size) →
      KeyRun X.prog X.w X.A.in1 (.ref f) op s2.heap.objs.size [I0] (fun a b => b = a) xs.length (fun i v => ∃ y, xs[i]? = some y ∧ RelV y v) St J (fun i v _ => ∃ t, v = .int (ms i) t) bt → J s2 → (∀ s', J s' → ∃ H', Inv X pins σ H' s' ∧ W H') → Q (.ref I0) s2) :
    wpAny (model X.prog X.w) X.A.in1 (pyIter (.ref ax)) Q E s := by
  obtain ⟨its, rv, pl, hz⟩ := I.list (kw.seq H w)
  have hax : ax < s.heap.objs.size := by
    obtain ⟨o, n, ho, _⟩ := pl
    exact Heap.lt_size ho
  refine wpAny_pyIter_list pl.isList ?_
  have stay : ∀ b o, s.heap.get? b = some o → (s.heap.push { cls := .type "list_iterator", data := .fields #[.ref ax, .int 0 0] }).get? b = some o := fun b o e => Heap.get?_push_of_some _ e
  have I1 : Inv X pins σ H { s with heap := s.heap.push { cls := .type "list_iterator", data := .fields #[.ref ax, .int 0 0] }, toks := s.toks } := I.kept stay
  have hsz : (s.heap.push { cls := .type "list_iterator", data := .fields #[.ref ax, .int 0 0] }).objs.size = s.heap.objs.size + 1 := size_push' ..
  have lf := Heap.lt_size hf
  have n0 : H s.heap.objs.size = none := I.hok.fresh (Nat.le_refl _)
  have n1 : H (s.heap.objs.size + 1) = none := I.hok.fresh (Nat.le_succ _)
  refine R s.heap.objs.size _ _ _ (walks_vals (A := X.A.in1) hr.in1.hd s.heap.objs.size ax (Nat.ne_of_lt hax) xs) ⟨⟨_, Heap.get?_push_size _ rfl, rfl, rfl⟩, its, rv, pl.isList.at fun o e => stay _ _ e⟩ (fun b hb => ?_)
    (keyrun (S := (s.heap.push { cls := .type "list_iterator", data := .fields #[.ref ax, .int 0 0] }).objs.size) (pins := pins) M1 nd hip hc hbind hr hbody kw hW (fun H' h => I.fpOk (Nat.le_refl _) h) (fun H' h => I.fpOk (by rw [hsz]; exact Nat.le_succ _) h) (Nat.ne_of_lt lf) (by rw [hsz]; exact Nat.ne_of_lt (Nat.lt_succ_of_lt lf)) ffr (far_frs I (Nat.le_refl _)) (far_frs I (by rw [hsz]; exact Nat.le_succ _)))
    ⟨⟨H, I1, w, nf, n0, by rw [hsz]; exact n1⟩, stay _ _ hf⟩ fun s' J => ?_
  · show b < (s.heap.push _).objs.size
    rw [hsz]
    rcases List.mem_cons.mp hb with z | z
    · rw [z]; exact Nat.lt_succ_self _
    · rw [List.mem_singleton.mp z]; exact Nat.lt_succ_of_lt hax
  · obtain ⟨⟨H', I', w', _⟩, _⟩ := J
    exact ⟨H', I', w'⟩
/-- min, max of a list by a key -/
def tKeyB [TabEnv] (K : PySem.W.Frag) (lt : Int → Int → Bool) (pi : Nat) (ta tk : TE) : TE := fun σ H Q => ta σ H fun v H1 => TabsG H1 ∧ ∃ a, v = .ref a ∧ ∀ H2, Sam H1 H2 → TabsG H2 → ∃ (xs : List V) (ms : Nat → Int) (W : Hp → Prop), (∀ H', W H' → Sam H2 H') ∧ W H2 ∧ 0 < xs.length ∧ KeyW K tk pi σ a xs ms W ∧
  ∀ H' x, W H' → xs[argBest (fun i j => lt (ms i) (ms j)) (xs.length - 1)]? = some x → Q x H'
/-- .. with default=None -/
def tKeyBD [TabEnv] (K : PySem.W.Frag) (lt : Int → Int → Bool) (pi : Nat) (ta tk : TE) : TE := fun σ H Q => ta σ H fun v H1 => TabsG H1 ∧ ∃ a, v = .ref a ∧ ∀ H2, Sam H1 H2 → TabsG H2 → ∃ (xs : List V) (ms : Nat → Int) (W : Hp → Prop), (∀ H', W H' → Sam H2 H') ∧ W H2 ∧ KeyW K tk pi σ a xs ms W ∧
  (∀ H', xs = [] → W H' → Q .non H') ∧ ∀ H' x, W H' → xs[argBest (fun i j => lt (ms i) (ms j)) (xs.length - 1)]? = some x → Q x H'
def ltB (a b : Int) : Bool := decide (a < b)
def gtB (a b : Int) : Bool := decide (a > b)
section
variable [G : TabEnv] {e : Expr} {ta tk : TE} {c P : Addr} {prs : Arguments} {what : Expr} {sco : Scope} {p pos lpos kpos : Pos} {k pi : Nat} {a : Str}
theorem pe_minK (hg : Gl X "min") (hm : X.mg "min" = none) (he : PE X e ta) (TB : TabB X.base X.mg c P) (hcode : X.env.code = .ref c) (hmT : (P, X.env.qual ++ "<lambda>") ∈ G.T) (M1 : LamOne a X.env.scope sco) (nd : X.N.Nodup) (hip : X.N[pi]? = some a) (hr : Room (k + 2) X.A)
    (hbind : ∀ (md ctw u : Value) (c' : Addr), bindArgs (PySem.W.kla_fn "<lambda>" (X.env.qual ++ "<lambda>") prs what sco (cloFrom X.env.cells sco.names []) md (.ref c') ctw) ⟨[u], []⟩ = pure [(a, u)])
    (hbody : ∀ (A : Around) (out : List Env) (s : Shared) (H : Hp) (f c' : Addr), Room k (A.deeper (lamEnv X sco s.heap.objs.size f c')) → PE (lamCtx X A out s H sco f c') what tk) (hdef : defaultsOf prs X.env = ([], []) := by rfl)
    (hst : backTo pos (starEach [e] X.env) = (false, eval e X.env) :: backTo pos (starEach [] X.env) := by rfl) :
    PE X (.Call (.Name "min" p) [e] [⟨some "key", .Lambda prs what sco lpos, kpos⟩] pos) (tKeyB X.K ltB pi ta tk) := by
  refine ⟨fun pins s σ H Q I h => ?_⟩
  refine wpAny_Call_Name_kw (ld_blt I hg hm (by rfl) ?_)
  refine PyProof.Rows.callWith_kw ?_ hst (by rw [hst]; rfl)
  rw [hst]
  refine Calls.spliced_cons (thn (he.run pins s σ H _ I h) fun u s1 ⟨v, H1, I1, r1, tb, ax, ev, q⟩ => Calls.spliced_nil ?_)
  subst ev
  cases r1
  refine wpAny_evalAll_cons (wpAny_bind (lam_mk I1 tb TB hcode hmT hdef (M1.has I1.ok) fun f c' md ctw H2 s2 I2 sam tb2 hf nf ffr hco => wpAny_bind (wpAny_standAt (wpAny_pure (wpAny_evalAll_nil ?_)))))
  obtain ⟨xs, ms, W, hW, w, h0, kw, fin⟩ := q H2 sam tb2
  refine call_min_walkK (keyed I2 M1 nd hip (CmpOf.ints_lt ms fun i v h => h) (hbind md ctw · c') hr (fun A out s H => hbody A out s H f c') kw (fun H' w => (hW H' w).at hco codeO_tbl) w ffr nf hf fun I0 s3 St J Wk st fp kr j back => ?_)
  refine ⟨I0, _, _, _, _, _, St, J, _, _, rfl, Wk, st, fp, h0, kr, j, fun v s' ⟨y, hy, ry⟩ js => ?_⟩
  obtain ⟨H', I', w'⟩ := back s' js
  exact ⟨y, H', I', ry, fin H' y w' hy⟩
theorem pe_maxK (hg : Gl X "max") (hm : X.mg "max" = none) (he : PE X e ta) (TB : TabB X.base X.mg c P) (hcode : X.env.code = .ref c) (hmT : (P, X.env.qual ++ "<lambda>") ∈ G.T) (M1 : LamOne a X.env.scope sco) (nd : X.N.Nodup) (hip : X.N[pi]? = some a) (hr : Room (k + 2) X.A)
    (hbind : ∀ (md ctw u : Value) (c' : Addr), bindArgs (PySem.W.kla_fn "<lambda>" (X.env.qual ++ "<lambda>") prs what sco (cloFrom X.env.cells sco.names []) md (.ref c') ctw) ⟨[u], []⟩ = pure [(a, u)])
    (hbody : ∀ (A : Around) (out : List Env) (s : Shared) (H : Hp) (f c' : Addr), Room k (A.deeper (lamEnv X sco s.heap.objs.size f c')) → PE (lamCtx X A out s H sco f c') what tk) (hdef : defaultsOf prs X.env = ([], []) := by rfl)
    (hst : backTo pos (starEach [e] X.env) = (false, eval e X.env) :: backTo pos (starEach [] X.env) := by rfl) :
    PE X (.Call (.Name "max" p) [e] [⟨some "key", .Lambda prs what sco lpos, kpos⟩] pos) (tKeyB X.K gtB pi ta tk) := by
  refine ⟨fun pins s σ H Q I h => ?_⟩
  refine wpAny_Call_Name_kw (ld_blt I hg hm (by rfl) ?_)
  refine PyProof.Rows.callWith_kw ?_ hst (by rw [hst]; rfl)
  rw [hst]
  refine Calls.spliced_cons (thn (he.run pins s σ H _ I h) fun u s1 ⟨v, H1, I1, r1, tb, ax, ev, q⟩ => Calls.spliced_nil ?_)
  subst ev
  cases r1
  refine wpAny_evalAll_cons (wpAny_bind (lam_mk I1 tb TB hcode hmT hdef (M1.has I1.ok) fun f c' md ctw H2 s2 I2 sam tb2 hf nf ffr hco => wpAny_bind (wpAny_standAt (wpAny_pure (wpAny_evalAll_nil ?_)))))
  obtain ⟨xs, ms, W, hW, w, h0, kw, fin⟩ := q H2 sam tb2
  refine call_max_walkK (keyed I2 M1 nd hip (CmpOf.ints_gt ms fun i v h => h) (hbind md ctw · c') hr (fun A out s H => hbody A out s H f c') kw (fun H' w => (hW H' w).at hco codeO_tbl) w ffr nf hf fun I0 s3 St J Wk st fp kr j back => ?_)
  refine ⟨I0, _, _, _, _, _, St, J, _, _, rfl, Wk, st, fp, h0, kr, j, fun v s' ⟨y, hy, ry⟩ js => ?_⟩
  obtain ⟨H', I', w'⟩ := back s' js
  exact ⟨y, H', I', ry, fin H' y w' hy⟩
theorem pe_maxKD {jn} {npos dpos : Pos} (hg : Gl X "max") (hm : X.mg "max" = none) (he : PE X e ta) (TB : TabB X.base X.mg c P) (hcode : X.env.code = .ref c) (hmT : (P, X.env.qual ++ "<lambda>") ∈ G.T) (M1 : LamOne a X.env.scope sco) (nd : X.N.Nodup) (hip : X.N[pi]? = some a) (hr : Room (k + 2) X.A)
    (hbind : ∀ (md ctw u : Value) (c' : Addr), bindArgs (PySem.W.kla_fn "<lambda>" (X.env.qual ++ "<lambda>") prs what sco (cloFrom X.env.cells sco.names []) md (.ref c') ctw) ⟨[u], []⟩ = pure [(a, u)])
    (hbody : ∀ (A : Around) (out : List Env) (s : Shared) (H : Hp) (f c' : Addr), Room k (A.deeper (lamEnv X sco s.heap.objs.size f c')) → PE (lamCtx X A out s H sco f c') what tk) (hdef : defaultsOf prs X.env = ([], []) := by rfl)
    (hst : backTo pos (starEach [e] X.env) = (false, eval e X.env) :: backTo pos (starEach [] X.env) := by rfl) :
    PE X (.Call (.Name "max" p) [e] [⟨some "key", .Lambda prs what sco lpos, kpos⟩, ⟨some "default", .Constant .none jn npos, dpos⟩] pos) (tKeyBD X.K gtB pi ta tk) := by
  refine ⟨fun pins s σ H Q I h => ?_⟩
  refine wpAny_Call_Name_kw (ld_blt I hg hm (by rfl) ?_)
  refine PyProof.Rows.callWith_kw ?_ hst (by rw [hst]; rfl)
  rw [hst]
  refine Calls.spliced_cons (thn (he.run pins s σ H _ I h) fun u s1 ⟨v, H1, I1, r1, tb, ax, ev, q⟩ => Calls.spliced_nil ?_)
  subst ev
  cases r1
  refine wpAny_evalAll_cons (wpAny_bind (lam_mk I1 tb TB hcode hmT hdef (M1.has I1.ok) fun f c' md ctw H2 s2 I2 sam tb2 hf nf ffr hco => wpAny_bind (wpAny_standAt (wpAny_pure (wpAny_evalAll_cons (wpAny_bind (Constant_none (wpAny_bind (wpAny_standAt (wpAny_pure (wpAny_evalAll_nil ?_)))))))))))
  obtain ⟨xs, ms, W, hW, w, kw, zero, fin⟩ := q H2 sam tb2
  refine call_max_walkKD (keyed I2 M1 nd hip (CmpOf.ints_gt ms fun i v h => h) (hbind md ctw · c') hr (fun A out s H => hbody A out s H f c') kw (fun H' w => (hW H' w).at hco codeO_tbl) w ffr nf hf fun I0 s3 St J Wk st fp kr j back => ?_)
  refine ⟨I0, _, _, _, _, _, St, J, _, _, rfl, Wk, st, fp, kr, j, fun hn s' js => ?_, fun hn v s' ⟨y, hy, ry⟩ js => ?_⟩
  · obtain ⟨H', I', w'⟩ := back s' js
    exact ⟨.non, H', I', rfl, zero H' (List.length_eq_zero_iff.mp hn) w'⟩
  · obtain ⟨H', I', w'⟩ := back s' js
    exact ⟨y, H', I', ry, fin H' y w' hy⟩
end
end
end LamK

namespace DX
open PySem L2 LamK
variable [TabEnv]
/-! ### the least and the greatest by a key -/
section
variable {K : PySem.W.Frag} {B0 H0 B H B' H' : Hp} {σ : L2.St} {δ δ' : List SV} {ta tb te tk : TE} {d x y : D} {ds es xs : List D} {i m pi : Nat} {lt : Int → Int → Bool} {ms : Nat → Int}
theorem Stp.tabs {H2 : Hp} (bh : Bh B H) (sam : Sam H H2) (tb : TabsG H2) : Stp B H B H2 := ⟨Sam.refl _, ⟨bh.sm.trans sam, tb⟩, sam, fun _ _ z => z⟩
theorem keyW_of {a : Addr} {vs : List V} {H2 : Hp} (S : Sd K B0 H0 B H2 σ δ) (hs : ∀ B' H', Stp B H2 B' H' → SqL K H' a vs) (hv : DqAll K B vs xs) (hk : ∀ i x, xs[i]? = some x → ED K tk (δ.set pi (.val x)) (.int (ms i))) :
    KeyW K tk pi σ a vs ms fun H' => ∃ B', Stp B H2 B' H' where
  seq := fun H' ⟨B', s⟩ => hs B' H' s
  key := fun i v H' hi ⟨B', s⟩ => by
    obtain ⟨d, hd, dv⟩ := hv.getV hi
    refine hk i d hd B0 H0 B' H' _ _ ((S.step s).setVal (Dq.up s.bb _ _ dv)) fun r B'' H'' s2 dr => ?_
    exact ⟨Dq.int_inv dr, B'', s.trans s2⟩
/-- of a list that is known -/
theorem ed_keyB (hx : ED K ta δ (.list xs)) (h0 : 0 < xs.length) (hk : ∀ i x, xs[i]? = some x → ED K tk (δ.set pi (.val x)) (.int (ms i))) (e : xs[argBest (fun i j => lt (ms i) (ms j)) (xs.length - 1)]? = some d) : ED K (tKeyB K lt pi ta tk) δ d := fun B0 H0 B H σ Q S q =>
  hx B0 H0 B H σ _ S fun v B1 H1 s1 dv => by
    cases dv with
    | @lst a vs _ hs hv =>
      refine ⟨s1.bh.tb, a, rfl, fun H2 sam tb => ?_⟩
      have st := Stp.tabs s1.bh sam tb
      refine ⟨vs, ms, _, fun H' ⟨B', s⟩ => s.hh, ⟨B1, .refl st.bh⟩, by rw [hv.len]; exact h0, keyW_of ((S.step s1).step st) (fun B' H' s => s.bh.seq (s.bb.seq hs)) hv hk, fun H' x ⟨B', s⟩ hx => ?_⟩
      rw [hv.len] at hx
      obtain ⟨d', hd, dv⟩ := hv.getV hx
      rw [e] at hd; cases hd
      exact q x B' H' ((s1.trans st).trans s) (Dq.up s.bb _ _ dv)
/-- of a list that is this frame's own -/
theorem ed_keyOwn (hx : δ[m]? = some (.own (.l xs))) (h0 : 0 < xs.length) (hk : ∀ i x, xs[i]? = some x → ED K tk (δ.set pi (.val x)) (.int (ms i))) (e : xs[argBest (fun i j => lt (ms i) (ms j)) (xs.length - 1)]? = some d) : ED K (tKeyB K lt pi (tVar m) tk) δ d := fun B0 H0 B H σ Q S q => by
  obtain ⟨a, vs, a1, hp, bp, h0', hv⟩ := S.slotOwn hx
  refine ⟨_, a1, S.hist.bh.tb, a, rfl, fun H2 sam tb => ?_⟩
  have st := Stp.tabs S.hist.bh sam tb
  refine ⟨vs, ms, _, fun H' ⟨B', s⟩ => s.hh, ⟨B, .refl st.bh⟩, by rw [hv.len]; exact h0, keyW_of (S.step st) (fun B' H' s => .inl (.inl (s.hh.at (sam.at hp)))) hv hk, fun H' x ⟨B', s⟩ hx => ?_⟩
  rw [hv.len] at hx
  obtain ⟨d', hd, dv⟩ := hv.getV hx
  rw [e] at hd; cases hd
  exact q x B' H' (st.trans s) (Dq.up s.bb _ _ dv)
theorem ed_keyOwnD (hx : δ[m]? = some (.own (.l xs))) (hk : ∀ i x, xs[i]? = some x → ED K tk (δ.set pi (.val x)) (.int (ms i))) (e0 : xs = [] → d = .none) (e : xs ≠ [] → xs[argBest (fun i j => lt (ms i) (ms j)) (xs.length - 1)]? = some d) : ED K (tKeyBD K lt pi (tVar m) tk) δ d := fun B0 H0 B H σ Q S q => by
  obtain ⟨a, vs, a1, hp, bp, h0', hv⟩ := S.slotOwn hx
  refine ⟨_, a1, S.hist.bh.tb, a, rfl, fun H2 sam tb => ?_⟩
  have st := Stp.tabs S.hist.bh sam tb
  refine ⟨vs, ms, _, fun H' ⟨B', s⟩ => s.hh, ⟨B, .refl st.bh⟩, keyW_of (S.step st) (fun B' H' s => .inl (.inl (s.hh.at (sam.at hp)))) hv hk, fun H' z ⟨B', s⟩ => ?_, fun H' x ⟨B', s⟩ hx => ?_⟩
  · subst z
    have : xs = [] := List.length_eq_zero_iff.mp hv.len.symm
    rw [e0 this] at q
    exact q .non B' H' (st.trans s) .non
  · rw [hv.len] at hx
    obtain ⟨d', hd, dv⟩ := hv.getV hx
    rw [e (fun z => by rw [z] at hd; cases hd)] at hd; cases hd
    exact q x B' H' (st.trans s) (Dq.up s.bb _ _ dv)
end
/-- the first that is best -/
theorem best_at {lt : Nat → Nat → Bool} (tr : ∀ a b c, lt a b = false → lt b c = false → lt a c = false) (irr : ∀ a, lt a a = false) (as : ∀ a b, lt a b = true → lt b a = false) : ∀ n, argBest lt n ≤ n ∧ ∀ i, i ≤ n → lt i (argBest lt n) = false
  | 0 => ⟨Nat.le_refl _, fun i hi => by
      have : i = 0 := by omega
      rw [this]; exact irr _⟩
  | n + 1 => by
    obtain ⟨h1, h2⟩ := best_at tr irr as n
    unfold argBest
    by_cases h : lt (n + 1) (argBest lt n) = true
    · rw [if_pos h]
      refine ⟨Nat.le_refl _, fun i hi => ?_⟩
      by_cases z : i = n + 1
      · rw [z]; exact irr _
      · exact tr _ _ _ (h2 i (by omega)) (as _ _ h)
    · rw [if_neg h]
      refine ⟨by omega, fun i hi => ?_⟩
      by_cases z : i = n + 1
      · rw [z]; exact Bool.eq_false_iff.mpr h
      · exact h2 i (by omega)
theorem least_at (ms : Nat → Int) (n : Nat) : argBest (fun i j => ltB (ms i) (ms j)) n ≤ n ∧ ∀ i, i ≤ n → ms (argBest (fun i j => ltB (ms i) (ms j)) n) ≤ ms i := by
  obtain ⟨h1, h2⟩ := best_at (lt := fun i j => ltB (ms i) (ms j)) (fun a b c h h' => by unfold ltB at *; rw [decide_eq_false_iff_not] at *; omega) (fun a => by unfold ltB; rw [decide_eq_false_iff_not]; omega) (fun a b h => by unfold ltB at *; rw [decide_eq_true_eq] at h; rw [decide_eq_false_iff_not]; omega) n
  refine ⟨h1, fun i hi => ?_⟩
  have := h2 i hi
  unfold ltB at this
  rw [decide_eq_false_iff_not] at this
  exact Int.not_lt.mp this
theorem most_at (ms : Nat → Int) (n : Nat) : argBest (fun i j => gtB (ms i) (ms j)) n ≤ n ∧ ∀ i, i ≤ n → ms i ≤ ms (argBest (fun i j => gtB (ms i) (ms j)) n) := by
  obtain ⟨h1, h2⟩ := best_at (lt := fun i j => gtB (ms i) (ms j)) (fun a b c h h' => by unfold gtB at *; rw [decide_eq_false_iff_not] at *; omega) (fun a => by unfold gtB; rw [decide_eq_false_iff_not]; omega) (fun a b h => by unfold gtB at *; rw [decide_eq_true_eq] at h; rw [decide_eq_false_iff_not]; omega) n
  refine ⟨h1, fun i hi => ?_⟩
  have := h2 i hi
  unfold gtB at this
  rw [decide_eq_false_iff_not] at this
  exact Int.not_lt.mp this
end DX

namespace DX
open PySem L2
/-- the table of the code object at c, as K tells it -/
def tabAt (K : PySem.W.Frag) (c : Addr) : Addr := match K.lookup c with
  | some ⟨_, _, .fields vs, _⟩ => (match (vs[11]? : Option Value) with
    | some (.ref P) => P
    | _ => 0)
  | _ => 0
theorem lawAtS_of {l : PySem.W.OpenLaw} {w : World} {K : PySem.W.Frag} {k : Nat} {x : Str} {mg : Str → Option Value} {fa : Addr} {h : Heap} {cs : List (Addr × Addr)} {fd : FuncData} {R : List D → D → Prop} (E : TabEnv) (hE : ∀ p ∈ E.T, ∃ q ∈ cs, q.2 = p.1)
    (hT : ∀ p ∈ cs, h.get? p.2 = some { cls := .none, data := .fields #[] }) (nT : ∀ p ∈ cs, K.lookup p.2 = none) (hc : ∀ p ∈ cs, PySem.W.codeHdIn K p.1 p.2 = true) (KX : K.In h) (hb : ∀ (s : Shared) (u : Value), BindsTo s fd ⟨[u], []⟩ [(x, u)])
    (hR : ∀ ns : List Int, ns.length ≤ 63 → R [.list (ns.map PyData.int)] (.bool true)) (F : ∀ base : Heap, K.In base → base.Ns mainGlobals mg → (∀ p ∈ cs, LamX.TabB base mg p.1 p.2) → FnOk l.prog w K mg base CX0 k fa fd [x] (spD K R)) : LamX.LawAtS l w K CX0 k 63 x mg fa h := by
  refine ⟨fd, cs, _, hT, nT, fun p mp => PySem.W.codeHd_of_K KX (hc p mp), hb, fun H a ns hl _ hH hS => ?_, F⟩
  have tb : TabsG H := fun p mp => by
    obtain ⟨q, mq, e⟩ := hE p mp
    exact .nil (by rw [← e]; exact hH q mq)
  exact ⟨H, [.list (ns.map PyData.int)], .bool true, hR ns hl, ⟨Sam.refl _, tb⟩, .cons (.lst hS DqAll.ofInts) .nil, fun _ _ _ _ dv => Dq.bool_inv dv⟩
end DX

namespace DX
open PySem L2 PySem.Spec PyProof.Rows
variable [TabEnv]
/-! ### lists of data: remove, in, sorted, list(range(..)) -/
section
variable {X : Cx} {K : PySem.W.Frag} {w : World}
def rRemD (K : PySem.W.Frag) : V → List V → Hp → VK → Prop := fun x xs H Q => ∃ (l : Addr) (y : V) (vs : List V) (d z : D) (ds : List D) (j : Nat), x = .ref l ∧ xs = [y] ∧ H l = some (.lst vs) ∧ DpAll K H vs ds ∧ Dp K H y d ∧ SeqAt.shaped (.list ds) = true ∧ SeqAt.shaped d = true ∧
  ds[j]? = some z ∧ PyData.eqv z d = true ∧ (∀ (m : Nat) (z' : D), m < j → ds[m]? = some z' → PyData.eqv z' d = false) ∧ Q .non (upd H l (.lst (vs.eraseIdx j)))
theorem mt_removeD (hu : X.A.units + 65 < cLine) (hK : X.K = K := by rfl) : MtM X "list.remove" (rRemD K) := by
  subst hK
  intro pins s σ H x xs v us Q I rx rs h
  obtain ⟨l, y, vs, d, z, ds, j, rfl, rfl, hl, ha, hy, sl, sd, hz, hzj, hno, q⟩ := h
  cases rx
  cases rs with
  | cons ry rt =>
    rename_i uy ut
    cases rt
    obtain ⟨cs, r1⟩ := Dp.reads I d y uy hy ry
    have lay : PyData.canLayAll0 ds = true := SeqAt.canLay_of_shaped sl
    have room : X.A.units + 1 + min (PyData.depthAll ds) d.depth < cLine := room_in_shaped sd hu
    obtain ⟨hlen, its, n, rv, hn, e⟩ := I.lstM hl
    obtain ⟨qs, h4⟩ := Dp.readsAll (X := X) I ds _ its ha rv
    have hn2 : its.length = ds.length := SeqAt.ReadsAll.length ds its qs h4
    have hmap : its.map (SeqAt.readOf s.heap) = ds := SeqAt.readsAll_map ds its qs lay h4
    have hjd := (List.getElem?_eq_some_iff.mp hz).1
    have hj : j < its.toArray.size := by simpa using (show j < its.length by omega)
    have at_ : ∀ (m : Nat) (hm : m < its.toArray.size) (z' : D), ds[m]? = some z' → SeqAt.readOf s.heap its.toArray[m] = z' := fun m hm z' hz' => by
      have hmn : m < its.length := by simpa using hm
      rw [← hmap, List.getElem?_map, List.getElem?_eq_getElem hmn] at hz'
      have e1 : SeqAt.readOf s.heap its[m] = z' := Option.some.inj hz'
      simpa using e1
    refine call_meets PySem.F.slot_list_remove ⟨_, e, rfl⟩ PySem.F.entry_list_remove (PySem.F.args_list_remove_2 _ _)
      (SeqAt.list_removeAt l its.toArray n none #[] uy (fun u => PyData.eqv (SeqAt.readOf s.heap u) d) j hj ?_ ?_ (by rw [List.size_toArray]; omega)) ⟨e, SeqAt.items_eqAt (vs := its.toArray) (show ReadsAll s.heap its.toArray.toList ds qs from h4) r1 lay (SeqAt.canLay_of_shaped sd) room, ?_⟩
    · exact (congrArg (PyData.eqv · d) (at_ j hj z hz)).trans hzj
    · intro m hm hmj
      have hz' : ds[m]? = some ds[m] := List.getElem?_eq_getElem (by omega)
      exact (congrArg (PyData.eqv · d) (at_ m hm _ hz')).trans (hno m _ hmj hz')
    · refine ⟨.non, _, I.lset (its' := its.eraseIdx j) (t' := s.toks) hl e ?_ (rv.eraseIdx j) ?_, rfl, q⟩
      · exact List.eraseIdxIfInBounds_toArray ..
      · rw [List.length_eraseIdx]; split <;> omega
theorem kx_inD (hu : X.A.units + 65 < cLine) (hK : X.K = K := by rfl) : OpR X (compareOp .In) (rInD K) := by subst hK; exact op_inD hu
theorem kx_notinD (hu : X.A.units + 65 < cLine) (hK : X.K = K := by rfl) : OpR X (compareOp .NotIn) (rNotInD K) := by subst hK; exact op_notInD hu
theorem kx_sortedI (hK : X.K = K := by rfl) : CallR X (.builtin "sorted") (rSortedI K) := by subst hK; exact cr_sortedI
end
section
variable {X : Cx} {K : PySem.W.Frag}
theorem kpg_lst {es : List Expr} {k : Nat} {t : TGs} {n : Nat} {pos : Pos} (hc : X.calm = true) (h : PGs X es t) (hK : X.K = K := by rfl) (hn : (assignEach es X.env).length = n := by rfl) (hst : (assignEach es X.env).findIdx? (·.1) = none := by rfl) :
    PG X (.Tuple es k pos) (gLst K n t) := by subst hK; exact pg_lst hc h hn hst
end
/-- the ints of a list, ascending -/
def asc (ns : List Int) : List Int := ns.mergeSort fun a b => decide (a ≤ b)
theorem asc_perm (ns : List Int) : (asc ns).Perm ns := List.mergeSort_perm ..
theorem asc_pw (ns : List Int) : (asc ns).Pairwise (· ≤ ·) := by
  have := List.pairwise_mergeSort (le := fun a b : Int => decide (a ≤ b)) (fun a b c h1 h2 => by rw [decide_eq_true_eq] at *; omega) (fun a b => by rw [Bool.or_eq_true, decide_eq_true_eq, decide_eq_true_eq]; omega) ns
  exact this.imp fun h => of_decide_eq_true h
theorem asc_uni : ∀ {a b : List Int}, a.Perm b → a.Pairwise (· ≤ ·) → b.Pairwise (· ≤ ·) → a = b
  | [], b, p, _, _ => (List.perm_nil.mp p.symm).symm
  | x :: a, [], p, _, _ => absurd (List.perm_nil.mp p) (fun z => nomatch z)
  | x :: a, y :: b, p, ha, hb => by
    obtain ⟨h1, h2⟩ := List.pairwise_cons.mp ha
    obtain ⟨h3, h4⟩ := List.pairwise_cons.mp hb
    have e : x = y := by
      have m1 : x ∈ y :: b := p.mem_iff.mp (List.mem_cons_self ..)
      have m2 : y ∈ x :: a := p.mem_iff.mpr (List.mem_cons_self ..)
      rcases List.mem_cons.mp m1 with z | z
      · exact z
      · rcases List.mem_cons.mp m2 with z' | z'
        · exact z'.symm
        · have := h3 x z
          have := h1 y z'
          omega
    subst e
    rw [asc_uni ((List.perm_cons _).mp p) h2 h4]
section
variable {K : PySem.W.Frag} {w : World} {B0 H0 B H B' H' : Hp} {σ : L2.St} {δ δ' : List SV} {ta tb te : TE} {d x y z : D} {ds es : List D} {E : EndsD} {i : Nat}
theorem ed_inD (ha : ED K ta δ d) (hb : ED K tb δ (.list ds)) (sd : SeqAt.shaped d = true) (sl : SeqAt.shaped (.list ds) = true) : ED K (tOp (rInD K) ta tb) δ (.bool (ds.any fun z => PyData.eqv z d)) := fun B0 H0 B H σ Q S q =>
  ha B0 H0 B H σ _ S fun v B1 H1 s1 a => hb B0 H0 B1 H1 σ _ (S.step s1) fun w B2 H2 s2 b =>
    ⟨d, ds, Dq.dp _ _ (Dq.up (s2.bb.trans s2.bh.sm) _ _ a) (SeqAt.canLay_of_shaped sd), Dq.dp _ _ (Dq.up s2.bh.sm _ _ b) (SeqAt.canLay_of_shaped sl), sd, sl, q _ B2 H2 (s1.trans s2) (.bl _)⟩
theorem ed_notinD (ha : ED K ta δ d) (hb : ED K tb δ (.list ds)) (sd : SeqAt.shaped d = true) (sl : SeqAt.shaped (.list ds) = true) : ED K (tOp (rNotInD K) ta tb) δ (.bool (!ds.any fun z => PyData.eqv z d)) := fun B0 H0 B H σ Q S q =>
  ha B0 H0 B H σ _ S fun v B1 H1 s1 a => hb B0 H0 B1 H1 σ _ (S.step s1) fun w B2 H2 s2 b =>
    ⟨d, ds, Dq.dp _ _ (Dq.up (s2.bb.trans s2.bh.sm) _ _ a) (SeqAt.canLay_of_shaped sd), Dq.dp _ _ (Dq.up s2.bh.sm _ _ b) (SeqAt.canLay_of_shaped sl), sd, sl, q _ B2 H2 (s1.trans s2) (.bl _)⟩
theorem en_sortedI {ns : List Int} (h : ED K te δ (.list (ns.map PyData.int))) : EN K (tCB (rSortedI K) (tCons te tNil)) δ ((asc ns).map PyData.int) := fun B0 H0 B H σ Q S q =>
  h B0 H0 B H σ _ S fun v B1 H1 s1 a => by
    cases a with
    | lst hs hA =>
      cases hA.ints
      refine ⟨_, ns, rfl, s1.bh.seq hs, fun ms p hp hw np => ?_⟩
      have e : ms = asc ns := asc_uni (hp.trans (asc_perm ns).symm) hw (asc_pw ns)
      subst e
      exact q p _ B1 _ (s1.trans (.newOwn s1.bh np)) (s1.hh.free np) (s1.bh.free np) upd_same DqAll.ofInts
theorem en_listRg {n : Int} (h : ED K ta δ (.int n)) (h0 : 0 ≤ n) (hn : n ≤ 16777216) : EN K (tLstRg (tRg1 ta)) δ ((List.range n.toNat).map fun i => PyData.int (i : Nat)) := fun B0 H0 B H σ Q S q =>
  h B0 H0 B H σ _ S fun v B1 H1 s1 a => by
    cases Dq.int_inv a
    refine ⟨n, rfl, RgOk.of_le (by omega) hn (by omega) h0, fun p np => q p _ B1 _ (s1.trans (.newOwn s1.bh np)) (s1.hh.free np) (s1.bh.free np) upd_same ?_⟩
    unfold rgV
    rw [Int.sub_zero]
    have : ∀ l : List Nat, DqAll K B1 (l.map fun i => V.int (0 + (i : Nat))) (l.map fun i => PyData.int (i : Nat)) := fun l => by
      induction l with
      | nil => exact .nil
      | cons i l ih => exact .cons (by show Dq K B1 (V.int (0 + (i : Nat))) (.int (i : Nat)); rw [Int.zero_add]; exact .int _) ih
    exact this _
/-- xs.remove(e), xs a list of its frame alone -/
theorem wp_removeD {j : Nat} (e : δ[i]? = some (.own (.l ds))) (h : ED K te δ d) (sl : SeqAt.shaped (.list ds) = true) (sd : SeqAt.shaped d = true) (hz : ds[j]? = some z) (hj : PyData.eqv z d = true) (hno : ∀ (m : Nat) (z' : D), m < j → ds[m]? = some z' → PyData.eqv z' d = false)
    (q : E.nx (δ.set i (.own (.l (ds.eraseIdx j))))) : WP K (tDrop (tBM K "list" (rRemD K) (tVar i) (tCons te tNil))) E δ := fun B0 H0 B H σ D L S => by
  obtain ⟨p, vs, a1, hp, bp, h0, dp⟩ := S.slotOwn e
  refine ⟨_, a1, .inl ⟨rfl, vs, .inl (.inl hp)⟩, h B0 H0 B H σ _ S fun v B1 H1 s1 dv => ?_⟩
  have S1 := S.step s1
  obtain ⟨p', vs', a2, hp', bp', h0', dp'⟩ := S1.slotOwn e
  rw [a1] at a2; cases a2
  have lay := SeqAt.canLay_of_shaped sl
  refine ⟨p, v, vs', d, z, ds, j, rfl, rfl, hp', DqAll.dp _ _ (DqAll.up s1.bh.sm _ _ dp') lay, Dq.dp _ _ (Dq.up s1.bh.sm _ _ dv) (SeqAt.canLay_of_shaped sd), sl, sd, hz, hj, hno, ?_⟩
  exact L.nx _ _ B1 _ (own_upd (yo := .l _) S1 e a1 bp' h0' ⟨_, rfl, dqall_erase j dp'⟩) q
/-- a, b = a list -/
theorem gd_lst {g : TGs} {n : Nat} (h : GDs K g δ ds δ') (e : ds.length = n) : GD K (gLst K n g) δ (.list ds) δ' := fun B0 H0 B H σ v Q S a q => by
  cases a with
  | lst hs hA => exact ⟨_, _, rfl, S.hist.bh.seq hs, hA.len.trans e, h B0 H0 B H σ _ Q S hA q⟩
/-! an owned list is handed to a def whose answer is a tuple of plain things -/
def Pln : D → Prop
  | .none => True
  | .bool _ => True
  | .int _ => True
  | .str _ => True
  | _ => False
theorem Pln.dq {v : V} (s : Pln d) (h : Dq K B v d) : Dq K B' v d := by
  cases h with
  | non => exact .non
  | bl b => exact .bl b
  | int i => exact .int i
  | str x => exact .str x
  | lst _ _ => exact s.elim
  | tup _ _ => exact s.elim
  | dct _ _ => exact s.elim
theorem Pln.all : ∀ {ds : List D} {vs : List V}, (∀ d ∈ ds, Pln d) → DqAll K B vs ds → DqAll K B' vs ds
  | [], _, _, h => by cases h; exact .nil
  | d :: ds, _, hs, h => by
    cases h with
    | cons a b => exact .cons ((hs _ (List.mem_cons_self ..)).dq a) (Pln.all (fun d md => hs d (List.mem_cons_of_mem _ md)) b)
def Flt : D → Prop
  | .tuple ds => ∀ d ∈ ds, Pln d
  | d => Pln d
theorem Flt.off {p : Addr} {vs : List V} {v : V} (s : Flt d) (hp : B p = some (.lst vs)) (h : Dq K B v d) : Dq K (fun a => if a = p then none else B a) v d := by
  cases h with
  | non => exact .non
  | bl b => exact .bl b
  | int i => exact .int i
  | str x => exact .str x
  | lst _ _ => exact s.elim
  | @tup a xs ds hs hA =>
    refine .tup ?_ (Pln.all s hA)
    rcases hs with (e | ⟨o, e⟩) | e
    · have : a ≠ p := fun z => by subst z; rw [hp] at e; cases e
      exact .inl (.inl ((if_neg this).trans e))
    · have : a ≠ p := fun z => by subst z; rw [hp] at e; cases e
      exact .inl (.inr ⟨o, (if_neg this).trans e⟩)
    · exact .inr e
  | dct _ _ => exact s.elim
theorem ep_thawT {P : D → Prop} (e : δ[i]? = some (.own (.l ds))) (h : EP K te (δ.set i (.val (.list ds))) P) (hs : ∀ d, P d → Flt d) : EP K te δ P := fun B0 H0 B H σ Q S q => by
  obtain ⟨p, vs, a1, hp, bp, h0, dp⟩ := S.slotOwn e
  obtain ⟨k1, k2⟩ := Stp.know (o := .lst vs) S.hist.bh bp hp
  have S2 := S.freezeAt e a1 hp bp h0 dp
  refine h B0 H0 _ H σ Q S2 fun v B2 H2 d s2 dv pd => ?_
  have b2 : B2 p = some (.lst vs) := s2.bb.at upd_same
  refine q v (fun a => if a = p then none else B2 a) H2 d ⟨fun a o ea => ?_, ⟨fun a o ea => ?_, s2.bh.tb⟩, s2.hh, fun a ha hb => ?_⟩ ((hs d pd).off b2 dv) pd
  · have : a ≠ p := fun z => by subst z; rw [bp] at ea; cases ea
    show ∃ o', (if a = p then none else B2 a) = some o' ∧ _
    rw [if_neg this]
    exact (k1.trans s2.bb) _ _ ea
  · have ea : (if a = p then none else B2 a) = some o := ea
    by_cases z : a = p
    · rw [if_pos z] at ea; cases ea
    · rw [if_neg z] at ea; exact s2.bh.sm _ _ ea
  · show (if a = p then none else B2 a) = none
    by_cases z : a = p
    · rw [if_pos z]
    · rw [if_neg z]
      exact s2.fr a ha (by rw [upd_ne z]; exact hb)
end
end DX
theorem L2.hu65 {k : Nat} {A : PySem.Around} (hr : L2.Room k A) : A.units + 65 < PySem.cLine := by
  have := hr.un
  omega

namespace DX
open PySem L2 PySem.Spec PyProof.Rows
variable [TabEnv]
section
variable {X : Cx} {K : PySem.W.Frag} {w : World}
theorem kpe_lenSet {a : Expr} {ta : TE} {p p2 q pos : Pos} (hg : Gl X "len") (hm : X.mg "len" = none) (hg2 : Gl X "set") (hm2 : X.mg "set" = none) (ha : PE X a ta) (hK : X.K = K := by rfl) (hc : X.calm = true := by rfl)
    (na : starEach [a] X.env = (false, eval a X.env) :: starEach [] X.env := by rfl) : PE X (.Call (.Name "len" p) [.Call (.Name "set" p2) [a] [] q] [] pos) (RZ.tLenSetI K ta) := by subst hK; exact RZ.pe_lenSetI hg hm hg2 hm2 ha hc na
theorem kx_min (hc : X.calm = true := by rfl) (hK : X.K = K := by rfl) : CallR X (.builtin "min") (rMin K) := by subst hK; exact cr_min hc
theorem kx_max (hc : X.calm = true := by rfl) (hK : X.K = K := by rfl) : CallR X (.builtin "max") (rMax K) := by subst hK; exact cr_max hc
def rNotInT (K : PySem.W.Frag) : R2 := fun x y H Q => ∃ d ds, Dp K H x d ∧ Dp K H y (.tuple ds) ∧ SeqAt.shaped d = true ∧ SeqAt.shaped (.tuple ds) = true ∧ Q (.bl (!ds.any fun z => PyData.eqv z d)) H
theorem kx_notinT (hu : X.A.units + 65 < cLine) (hK : X.K = K := by rfl) : OpR X (compareOp .NotIn) (rNotInT K) := by
  subst hK
  intro pins s σ H x y v u Q I rx ry ⟨d, ds, hd, he, sd, se, q⟩
  obtain ⟨ps, r1⟩ := Dp.reads I d x v hd rx
  obtain ⟨qs, r2⟩ := Dp.reads I (.tuple ds) y u he ry
  exact SeqAt.notIn_tuple_reads r2 r1 (SeqAt.canLay_of_shaped se) (SeqAt.canLay_of_shaped sd) (room_in_shaped sd hu) ⟨.bl _, H, I, rfl, q⟩
end
section
variable {K : PySem.W.Frag} {w : World} {B0 H0 B H B' H' : Hp} {σ : L2.St} {δ δ' : List SV} {ta tb te ty : TE} {tt : TT} {d x y z : D} {ds es : List D} {E : EndsD} {i : Nat} {b : Bool}
theorem ed_lenSet {ns : List Int} (h : ED K ta δ (.list (ns.map PyData.int))) (nd : ns.Nodup) (hl : ns.length ≤ 4000) : ED K (RZ.tLenSetI K ta) δ (.int (ns.length : Nat)) := fun B0 H0 B H σ Q S q =>
  h B0 H0 B H σ _ S fun v B1 H1 s1 a => by
    cases a with
    | lst hs hA =>
      cases hA.ints
      exact ⟨_, ns, rfl, s1.bh.seq hs, nd, hl, q _ B1 H1 s1 (.int _)⟩
theorem ed_minL {a b : Int} (h : ED K ta δ (.list [.int a, .int b])) : ED K (tCB (rMin K) (tCons ta tNil)) δ (.int (min a b)) := fun B0 H0 B H σ Q S q =>
  h B0 H0 B H σ _ S fun v B1 H1 s1 dv => by
    cases dv with
    | lst hs hA =>
      cases (DqAll.ints (ns := [a, b]) hA)
      refine ⟨_, [a, b], rfl, s1.bh.seq hs, (by show 0 < 2; decide), fun m hm hy => ?_⟩
      have e : m = min a b := by
        have h1 := hy a (by simp)
        have h2 := hy b (by simp)
        have h3 : m = a ∨ m = b := by simpa using hm
        omega
      subst e
      exact q _ B1 H1 s1 (.int _)
theorem ed_maxL {a b : Int} (h : ED K ta δ (.list [.int a, .int b])) : ED K (tCB (rMax K) (tCons ta tNil)) δ (.int (max a b)) := fun B0 H0 B H σ Q S q =>
  h B0 H0 B H σ _ S fun v B1 H1 s1 dv => by
    cases dv with
    | lst hs hA =>
      cases (DqAll.ints (ns := [a, b]) hA)
      refine ⟨_, [a, b], rfl, s1.bh.seq hs, (by show 0 < 2; decide), fun m hm hy => ?_⟩
      have e : m = max a b := by
        have h1 := hy a (by simp)
        have h2 := hy b (by simp)
        have h3 : m = a ∨ m = b := by simpa using hm
        omega
      subst e
      exact q _ B1 H1 s1 (.int _)
theorem ed_notinT (ha : ED K ta δ d) (hb : ED K tb δ (.tuple ds)) (sd : SeqAt.shaped d = true) (sl : SeqAt.shaped (.tuple ds) = true) : ED K (tOp (rNotInT K) ta tb) δ (.bool (!ds.any fun z => PyData.eqv z d)) := fun B0 H0 B H σ Q S q =>
  ha B0 H0 B H σ _ S fun v B1 H1 s1 a => hb B0 H0 B1 H1 σ _ (S.step s1) fun w B2 H2 s2 b =>
    ⟨d, ds, Dq.dp _ _ (Dq.up (s2.bb.trans s2.bh.sm) _ _ a) (SeqAt.canLay_of_shaped sd), Dq.dp _ _ (Dq.up s2.bh.sm _ _ b) (SeqAt.canLay_of_shaped sl), sd, sl, q _ B2 H2 (s1.trans s2) (.bl _)⟩
/-- a test reads an owned list -/
theorem et_thaw (e : δ[i]? = some (.own (.l ds))) (h : ET K tt (δ.set i (.val (.list ds))) b) : ET K tt δ b := fun B0 H0 B H σ Q S q => by
  obtain ⟨p, vs, a1, hp, bp, h0, dp⟩ := S.slotOwn e
  obtain ⟨k1, k2⟩ := Stp.know (o := .lst vs) S.hist.bh bp hp
  refine h B0 H0 _ H σ Q (S.freezeAt e a1 hp bp h0 dp) fun B2 H2 s2 => ?_
  refine q (fun a => if a = p then none else B2 a) H2 ⟨fun a o ea => ?_, ⟨fun a o ea => ?_, s2.bh.tb⟩, s2.hh, fun a ha hb => ?_⟩
  · have : a ≠ p := fun z => by subst z; rw [bp] at ea; cases ea
    show ∃ o', (if a = p then none else B2 a) = some o' ∧ _
    rw [if_neg this]
    exact (k1.trans s2.bb) _ _ ea
  · have ea : (if a = p then none else B2 a) = some o := ea
    by_cases z : a = p
    · rw [if_pos z] at ea; cases ea
    · rw [if_neg z] at ea; exact s2.bh.sm _ _ ea
  · show (if a = p then none else B2 a) = none
    by_cases z : a = p
    · rw [if_pos z]
    · rw [if_neg z]
      exact s2.fr a ha (by rw [upd_ne z]; exact hb)
/-! a dict of texts, made and asked at once -/
def kvT (kv : List (Str × Int)) : List (TE × TE) := kv.map fun q => (tC (.str q.1), tC (.int q.2))
def kvK (kv : List (Str × Int)) : List (Key × V) := kv.map fun q => (Sum.inr q.1, V.int q.2)
theorem kvT_run (kv : List (Str × Int)) : ∀ (Q : List (V × V) → Hp → Prop), Q (kv.map fun q => (V.str q.1, V.int q.2)) H → tPairs (kvT kv) σ H Q := by
  induction kv with
  | nil => exact fun Q h => h
  | cons q kv ih => exact fun Q h => ih (fun ps H3 => Q ((V.str q.1, V.int q.2) :: ps) H3) h
theorem ed_dispGet {kv : List (Str × Int)} {s : Str} {z r : Int} (h : ED K ty δ (.str s)) (hl : kv.length ≤ 15) (e : (valV (mergeK [] (kvK kv)) (Sum.inr s)).getD (.int z) = .int r) : ED K (tDGet2 (tDisp (kvT kv)) ty (tC (.int z))) δ (.int r) := fun B0 H0 B H σ Q S q => by
  intro p np
  refine kvT_run kv _ ⟨upd_same, kvK kv, by unfold kvK; rw [List.map_map]; rfl, by unfold kvK; rw [List.length_map]; exact hl, ?_⟩
  have eu : upd (upd H p (.dK [])) p (.dK (mergeK [] (kvK kv))) = upd H p (.dK (mergeK [] (kvK kv))) := funext fun a => by
    by_cases ha : a = p
    · rw [ha, upd_same, upd_same]
    · rw [upd_ne ha, upd_ne ha, upd_ne ha]
  rw [eu]
  have sN : Stp B H B (upd H p (.dK (mergeK [] (kvK kv)))) := .newOwn S.hist.bh np
  refine ⟨p, rfl, .inl ⟨_, .inl upd_same⟩, h B0 H0 B _ σ _ (S.step sN) fun v B1 H1 s1 dv => ?_⟩
  cases dv
  refine ⟨_, .inl ⟨_, Sum.inr s, .inl (s1.hh.at upd_same), rfl, rfl⟩, ?_⟩
  show Q ((valV _ _).getD (.int z)) _
  rw [e]
  exact q _ B1 H1 (sN.trans s1) (.int _)
end
end DX

namespace DX
open PySem L2 PySem.Spec PyProof.Rows
variable [TabEnv]
section
variable {X : Cx} {K : PySem.W.Frag} {w : World}
theorem kpa_star {e : Expr} {p : Pos} {es : List Expr} {te : TE} {t : TA} (he : PE X e te) (hr : PA X es t) (hK : X.K = K := by rfl) (hs : starEach (.Starred e p :: es) X.env = (true, eval e X.env) :: starEach es X.env := by rfl) :
    PA X (.Starred e p :: es) (StX.tStar K te t) := by subst hK; exact StX.pa_star he hr hs
end
section
variable {K : PySem.W.Frag} {w : World} {B0 H0 B H B' H' : Hp} {σ : L2.St} {δ δ' : List SV} {ta tb te ty : TE} {t : TA} {d x y z : D} {ds es : List D} {E : EndsD} {i : Nat} {b : Bool}
theorem ea_star (h : ED K te δ x) (e : itemsD x = some es) (ht : EA K t δ ds) : EA K (StX.tStar K te t) δ (es ++ ds) := fun B0 H0 B H σ Q S q =>
  h B0 H0 B H σ _ S fun v B1 H1 s1 a => by
    have fin : ∀ (p : Addr) (xs : List V), (SqT K H1 p xs ∨ SqL K H1 p xs) → DqAll K B1 xs es → v = .ref p → ∃ p xs, v = V.ref p ∧ (SqT K H1 p xs ∨ SqL K H1 p xs) ∧ t σ H1 fun ys H2 => Q (xs ++ ys) H2 := fun p xs hs hA ev =>
      ⟨p, xs, ev, hs, ht B0 H0 B1 H1 σ _ (S.step s1) fun ys B2 H2 s2 hy => q (xs ++ ys) B2 H2 (s1.trans s2) ((DqAll.up s2.bb _ _ hA).app hy)⟩
    cases a with
    | lst hs hA =>
      have e : _ = es := Option.some.inj e
      subst e
      exact fin _ _ (.inr (s1.bh.seq hs)) hA rfl
    | tup hs hA =>
      have e : _ = es := Option.some.inj e
      subst e
      exact fin _ _ (.inl (sqT_up s1.bh.sm hs)) hA rfl
    | _ => cases e
theorem ed_bits {i : Int} (h : ED K te δ (.int i)) : ED K (tBits te) δ (.int (Builtin.Int.intBits i : Nat)) := fun B0 H0 B H σ Q S q =>
  h B0 H0 B H σ _ S fun v B1 H1 s1 a => by
    cases Dq.int_inv a
    exact ⟨i, rfl, q _ B1 H1 s1 (.int _)⟩
end
end DX

namespace DX
open PySem L2 PySem.Spec PyProof.Rows
variable [TabEnv]
/-! ### an object that changes is only read for a while -/
section
variable {K : PySem.W.Frag} {w : World} {B0 H0 B H B' H' : Hp} {σ : L2.St} {δ δ' : List SV} {ta tb te ty : TE} {tt : TT} {d x y z : D} {ds es : List D} {E : EndsD} {i : Nat} {b : Bool} {C p : Addr} {fs : FM} {F : List Addr}
def frzB (G : List Addr) (B H : Hp) : Hp := fun a => if a ∈ G then H a else B a
theorem few_keys {ws : List (Str × V)} {G : List Addr} (rr : FsRep K B H fs ws G) : ∀ x, (ws.lookup x).isSome → x ∈ (kn fs).map (·.1) := fun x hx => by
  have : (kn fs).map (·.1) = fs.map Prod.fst := kn_keys
  rw [this, ← rr.keys]
  cases el : ws.lookup x with
  | none => rw [el] at hx; cases hx
  | some v =>
    refine Classical.byContradiction fun z => ?_
    have no : ∀ (l : List (Str × V)), x ∉ l.map Prod.fst → l.lookup x = none := fun l => by
      induction l with
      | nil => exact fun _ => rfl
      | cons q l ih =>
        intro hq
        exact (lookup_miss (fun e => hq (e ▸ List.mem_cons_self ..) : ¬ q.1 = x)).trans (ih fun z => hq (List.mem_cons_of_mem _ z))
    rw [no _ z] at el; cases el
theorem Sd.frzBig (S : Sd K B0 H0 B H σ δ) (e : δ[i]? = some (hold K C p fs F)) (hd : (fs.map Prod.fst).Nodup) : ∃ G : List Addr, F = p :: G ∧ (∀ a ∈ G, B a = none ∧ H a ≠ none) ∧ Sam B (frzB G B H) ∧ (NoM fs → ∀ a ∈ G, ∃ vs, H a = some (.lst vs)) ∧ Sd K B0 H0 (frzB G B H) H σ (δ.set i (.ob C (kn fs))) := by
  obtain ⟨dx, ws, G, a1, hp, rr, rfl, nd, hF⟩ := S.slotBig e
  have bG : ∀ a ∈ G, B a = none := fun a ma => (hF a (List.mem_cons_of_mem _ ma)).2.1
  have k1 : Sam B (frzB G B H) := fun a o ea => by
    have na : a ∉ G := fun z => by rw [bG a z] at ea; cases ea
    exact ⟨o, (if_neg na).trans ea, fun _ => rfl⟩
  have k2 : Sam (frzB G B H) H := fun a o ea => by
    have ea : (if a ∈ G then H a else B a) = some o := ea
    by_cases z : a ∈ G
    · rw [if_pos z] at ea; exact ⟨o, ea, fun _ => rfl⟩
    · rw [if_neg z] at ea; exact S.hist.bh.sm _ _ ea
  refine ⟨G, rfl, fun a ma => ⟨bG a ma, (hF a (List.mem_cons_of_mem _ ma)).1⟩, k1, fun hn => rr.lists hn, ⟨S.hist.bb.trans k1, ⟨k2, S.hist.bh.tb⟩, S.hist.hh, fun a q z => ?_⟩, by rw [List.length_set]; exact S.len, fun j t ej => ?_, fun j k t u o q n e1 e2 e3 e4 a ma mb => ?_⟩
  · have na : a ∉ G := fun m => q (hF a (List.mem_cons_of_mem _ m)).2.2
    exact (if_neg na).trans (S.hist.fr a q z)
  · rcases get_set ej with ⟨rfl, rfl⟩ | ⟨hne, ej⟩
    · exact ⟨_, a1, p, dx, ws, rfl, hp, few_keys rr, rr.kn k1 (fun a ma => if_pos ma) hd⟩
    · obtain ⟨o, eo, ok⟩ := S.ok j t ej
      have aw : ∀ a ∈ foot t o, a ∉ G := fun a ma mg => S.apart j i _ _ _ _ (Ne.symm hne) ej e eo a1 a ma (List.mem_cons_of_mem _ mg)
      refine ⟨o, eo, ?_⟩
      cases t with
      | no => exact True.intro
      | val d => obtain ⟨v, e1, q⟩ := ok; exact ⟨v, e1, Dq.up k1 _ _ q⟩
      | ob C' fs' =>
        obtain ⟨pp, dx', ws', rfl, hp', hn', hf'⟩ := ok
        exact ⟨pp, dx', ws', rfl, hp', hn', hf'.up k1⟩
      | own xo =>
        obtain ⟨pp, u, rfl, hp', bp, h0, q⟩ := ok
        exact ⟨pp, u, rfl, hp', (if_neg (aw pp (List.mem_singleton.mpr rfl))).trans bp, h0, q.up k1⟩
      | big R2 F2 =>
        obtain ⟨v, rfl, r, st2, ha⟩ := ok
        refine ⟨v, rfl, st2 B H _ H v r (fun w d => Dq.up k1 d w) (fun a ma o eo nt => eo), st2, fun a ma => ?_⟩
        obtain ⟨h1, h2, h3⟩ := ha a ma
        exact ⟨h1, (if_neg (aw a ma)).trans h2, h3⟩
  · have sub : ∀ (o : Option V), σ[i]? = some o → ∀ a ∈ foot (.ob C (kn fs)) o, a ∈ foot (hold K C p fs (p :: G)) o := fun o eo a ma => by
      rw [a1] at eo; cases eo
      rw [List.mem_singleton.mp ma]; exact List.mem_cons_self ..
    rcases get_set e1 with ⟨rfl, rfl⟩ | ⟨z, b⟩
    · rcases get_set e2 with ⟨z', _⟩ | ⟨z', b'⟩
      · exact n z'
      · exact S.apart i k _ _ _ _ n e b' e3 e4 a (sub o e3 a ma) mb
    · rcases get_set e2 with ⟨rfl, rfl⟩ | ⟨z', b'⟩
      · exact S.apart j i _ _ _ _ n b e e3 e4 a ma (sub q e4 a mb)
      · exact S.apart j k _ _ _ _ n b b' e3 e4 a ma mb
/-- back again -/
theorem Stp.thawB {G : List Addr} {B2 H2 : Hp} (hG : ∀ a ∈ G, B a = none ∧ H a ≠ none) (k1 : Sam B (frzB G B H)) (s : Stp (frzB G B H) H B2 H2) : Stp B H (wo G B2) H2 := by
  refine ⟨fun a o ea => ?_, ⟨fun a o ea => s.bh.sm _ _ (wo_some ea).2, s.bh.tb⟩, s.hh, fun a ha hb => ?_⟩
  · have na : a ∉ G := fun z => by rw [(hG a z).1] at ea; cases ea
    rw [wo_out na]
    exact (k1.trans s.bb) a o ea
  · by_cases z : a ∈ G
    · exact wo_in z
    · rw [wo_out z]
      exact s.fr a ha ((if_neg z).trans hb)
theorem ed_frz (e : δ[i]? = some (hold K C p fs F)) (hd : (fs.map Prod.fst).Nodup) (hs : Pln d) (h : ED K te (δ.set i (.ob C (kn fs))) d) : ED K te δ d := fun B0 H0 B H σ Q S q => by
  obtain ⟨G, rfl, hG, k1, _, S'⟩ := S.frzBig e hd
  exact h B0 H0 _ H σ Q S' fun v B2 H2 s dv => q v (wo G B2) H2 (Stp.thawB hG k1 s) (hs.dq dv)
theorem et_frz (e : δ[i]? = some (hold K C p fs F)) (hd : (fs.map Prod.fst).Nodup) (h : ET K tt (δ.set i (.ob C (kn fs))) b) : ET K tt δ b := fun B0 H0 B H σ Q S q => by
  obtain ⟨G, rfl, hG, k1, _, S'⟩ := S.frzBig e hd
  exact h B0 H0 _ H σ Q S' fun B2 H2 s => q (wo G B2) H2 (Stp.thawB hG k1 s)
theorem frz_new {G : List Addr} {a : Addr} (hG : ∀ a ∈ G, B a = none ∧ H a ≠ none) (n : H a = none) : a ∉ G := fun z => (hG a z).2 n
theorem en_frz (e : δ[i]? = some (hold K C p fs F)) (hd : (fs.map Prod.fst).Nodup) (hs : ∀ d ∈ ds, Pln d) (h : EN K te (δ.set i (.ob C (kn fs))) ds) : EN K te δ ds := fun B0 H0 B H σ Q S q => by
  obtain ⟨G, rfl, hG, k1, _, S'⟩ := S.frzBig e hd
  exact h B0 H0 _ H σ Q S' fun l vs B2 H2 s nl bl hl da => q l vs (wo G B2) H2 (Stp.thawB hG k1 s) nl (by rw [wo_out (frz_new hG nl)]; exact bl) hl (Pln.all hs da)
theorem LRep.off {G : List Addr} {B2 H2 : Hp} {bs : List Addr} {dss : List (List D)} (h : LRep K B2 H2 bs dss) : (∀ ds ∈ dss, ∀ d ∈ ds, Pln d) → LRep K (wo G B2) H2 bs dss := by
  induction h with
  | nil => exact fun _ => .nil
  | cons e q _ ih => exact fun hs => .cons e (Pln.all (hs _ (List.mem_cons_self ..)) q) (ih fun ds md => hs ds (List.mem_cons_of_mem _ md))
theorem enn_frz {dss : List (List D)} (e : δ[i]? = some (hold K C p fs F)) (hd : (fs.map Prod.fst).Nodup) (hs : ∀ ds ∈ dss, ∀ d ∈ ds, Pln d) (h : ENN K te (δ.set i (.ob C (kn fs))) dss) : ENN K te δ dss := fun B0 H0 B H σ Q S q => by
  obtain ⟨G, rfl, hG, k1, _, S'⟩ := S.frzBig e hd
  exact h B0 H0 _ H σ Q S' fun a bs B2 H2 s nw nn ha da => q a bs (wo G B2) H2 (Stp.thawB hG k1 s) (fun c mc => ⟨(nw c mc).1, by rw [wo_out (frz_new hG (nw c mc).1)]; exact (nw c mc).2⟩) nn ha (da.off hs)
end
end DX

namespace DX
open PySem L2
variable [TabEnv]
/-! ### more ways to write an object that changes -/
section
variable {K : PySem.W.Frag} {B0 H0 B H B' H' : Hp} {σ : L2.St} {δ δ' : List SV} {ta tb tc te : TE} {d x y : D} {ds es : List D} {dss : List (List D)} {E : EndsD} {C p : Addr} {fs fs' : FM} {F F' : List Addr} {i : Nat} {f m : Str}
/-- o.f.append(e) -/
theorem wp_bigAppL (e : δ[i]? = some (hold K C p fs F)) (l : fget f fs = some (.l ds)) (c : Cls K C) (n : NoAttr K C f) (h : ED K te δ d) (hz : ds.length < sizeLine) (q : E.nx (δ.set i (hold K C p (putD f (.l (ds ++ [d])) fs) F))) :
    WP K (tDrop (tBM K "list" rAppend (tFld K (tVar i) f) (tCons te tNil))) E δ := fun B0 H0 B H σ D L S => by
  obtain ⟨dx, ws, a, vs, a1, hp, hl, ha, dvs, _⟩ := S.bigL e l
  refine ⟨_, a1, p, C, dx, ws, _, rfl, hp, c, n, hl, .inl ⟨rfl, vs, .inl (.inl ha)⟩, h B0 H0 B H σ _ S fun v B1 H1 s1 dv => ?_⟩
  obtain ⟨dx1, ws1, a2, vs1, b1, hp1, hl1, ha1, dvs1, hput⟩ := (S.step s1).bigL e l
  rw [s1.hh.at hp] at hp1; cases hp1
  rw [hl] at hl1; cases hl1
  exact ⟨_, vs1, v, rfl, rfl, ha1, by rw [dvs1.len]; exact hz, L.nx _ _ B1 _ (hput _ _ (dvs1.app (.cons dv .nil))) q⟩
/-- o.f op= e, ints -/
theorem wp_bigAugS {a0 b0 : Int} {g : Int → Int → Int} (e : δ[i]? = some (hold K C p fs F)) (l : fget f fs = some (.s (.int a0))) (c : Cls K C) (n : NoAttr K C f) (hl : fs.length < 1000) (h : ED K te δ (.int b0)) (q : ∀ F', E.nx (δ.set i (hold K C p (putD f (.s (.int (g a0 b0))) fs) F'))) :
    WP K (sFldAug K (tVar i) te (ipI g) f) E δ := fun B0 H0 B H σ D L S => by
  obtain ⟨dx, ws, G, a1, hp, r, rfl, nd, hF⟩ := S.slotBig e
  obtain ⟨v, as, hv, ⟨_, dv⟩, _⟩ := r.get l (List.nodup_cons.mp nd).2
  cases Dq.int_inv dv
  refine ⟨_, a1, p, C, dx, ws, _, rfl, hp, c, n, hv, h B0 H0 B H σ _ S fun w B1 H1 s1 y => ?_⟩
  cases Dq.int_inv y
  refine ⟨a0, b0, rfl, rfl, ?_⟩
  obtain ⟨dx1, ws1, a2, hp1, hw, F', S'⟩ := (S.step s1).bigStore (f := f) (x' := .s (.int (g a0 b0))) (v' := .int (g a0 b0)) (as' := []) e ⟨rfl, .int _⟩ (fun a ma => by cases ma) .nil
  exact ⟨dx1, ws1, hp1, by omega, L.nx _ _ B1 _ S' (q F')⟩
/-- o.f[k][j] = e -/
theorem wp_bigSet2 {k0 j0 : Int} {k j : Nat} (e : δ[i]? = some (hold K C p fs F)) (l : fget f fs = some (.ll dss)) (c : Cls K C) (n : NoAttr K C f) (h : ED K te δ d) (hb : ED K tb δ (.int k0)) (hk : ixN dss.length k0 = some k) (hd : dss[k]? = some ds) (hc : ED K tc δ (.int j0)) (hj : ixN ds.length j0 = some j)
    (q : E.nx (δ.set i (hold K C p (putD f (.ll (dss.set k (ds.set j d))) fs) F))) : WP K (tAsg te (gSub (tOp (rIx K) (tFld K (tVar i) f) tb) tc L2.rSetL)) E δ := fun B0 H0 B H σ D L S =>
  h B0 H0 B H σ _ S fun v B1 H1 s1 dv => bigIn e l c n hb hk hd (S.step s1) fun b B2 H2 s2 ⟨vs, hv⟩ hput => hc B0 H0 B2 H2 σ _ ((S.step s1).step s2) fun w B3 H3 s3 y => by
    cases Dq.int_inv y
    obtain ⟨vs2, h1, h2, h3⟩ := hput B3 H3 s3
    exact ⟨b, vs2, j0, j, rfl, rfl, h1, by rw [h2.len]; exact hj, L.nx _ _ B3 _ (h3 _ _ (h2.set (Dq.up (s2.bb.trans s3.bb) _ _ dv) j)) q⟩
theorem nodup_set {l : List Addr} {k : Nat} {b : Addr} (h : l.Nodup) (hb : b ∉ l) : (l.set k b).Nodup := by
  induction l generalizing k with
  | nil => exact h
  | cons a l ih =>
    obtain ⟨n1, n2⟩ := List.nodup_cons.mp h
    cases k with
    | zero => exact List.nodup_cons.mpr ⟨fun m => hb (List.mem_cons_of_mem _ m), n2⟩
    | succ k =>
      refine List.nodup_cons.mpr ⟨fun m => ?_, ih n2 fun m => hb (List.mem_cons_of_mem _ m)⟩
      rcases List.mem_or_eq_of_mem_set m with z | z
      · exact n1 z
      · exact hb (z ▸ List.mem_cons_self ..)
/-- a field's object stays where it is, what it owns may be other -/
theorem FsRep.swap {x : FD} {ws : List (Str × V)} (h : FsRep K B H fs ws F) : fget f fs = Option.some x → F.Nodup → ∃ v as, ws.lookup f = Option.some v ∧ FRep K B H x v as ∧ (∀ a ∈ as, a ∈ F) ∧ as.Nodup ∧
    ∀ (x' : FD) (as' : List Addr) (B' H' : Hp), (∀ w d, Dq K B w d → Dq K B' w d) → (∀ a ∈ F, a ∉ as → ∀ o, H a = Option.some o → NT o → H' a = Option.some o) → FRep K B' H' x' v as' → as'.Nodup → (∀ a ∈ as', a ∈ F → a ∈ as) →
      ∃ F', FsRep K B' H' (putD f x' fs) ws F' ∧ (∀ a ∈ F', a ∈ F ∨ a ∈ as') ∧ F'.Nodup := by
  induction h with
  | nil => exact fun e => by cases e
  | @cons g y u as0 fs ws G r t ih =>
    intro e nd
    obtain ⟨n1, n2, n3⟩ := List.nodup_append.mp nd
    unfold fget at e
    by_cases hg : g = f
    · rw [if_pos hg] at e
      cases e
      refine ⟨u, as0, lookup_hit hg, r, fun a ma => List.mem_append_left _ ma, n1, fun x' as' B' H' hd hh r' nd' hs => ?_⟩
      unfold putD
      rw [if_pos hg]
      refine ⟨as' ++ G, .cons r' (t.step hd fun a ma => hh a (List.mem_append_right _ ma) fun z => n3 a z a ma rfl), fun a ma => ?_, List.nodup_append.mpr ⟨nd', n2, fun a ma b mb eab => ?_⟩⟩
      · rcases List.mem_append.mp ma with z | z
        · exact .inr z
        · exact .inl (List.mem_append_right _ z)
      · subst eab
        exact n3 a (hs a ma (List.mem_append_right _ mb)) a mb rfl
    · rw [if_neg hg] at e
      obtain ⟨v, as, hl, hr, hs, hn, hput⟩ := ih e n2
      refine ⟨v, as, (lookup_miss hg).trans hl, hr, fun a ma => List.mem_append_right _ (hs a ma), hn, fun x' as' B' H' hd hh r' nd' hs' => ?_⟩
      obtain ⟨F', h1, h2, h3⟩ := hput x' as' B' H' hd (fun a ma mz => hh a (List.mem_append_right _ ma) mz) r' nd' fun a ma mg => hs' a ma (List.mem_append_right _ mg)
      unfold putD
      rw [if_neg hg]
      refine ⟨as0 ++ F', .cons (r.step hd fun a ma => hh a (List.mem_append_left _ ma) fun z => n3 a ma a (hs a z) rfl) h1, fun a ma => ?_, List.nodup_append.mpr ⟨n1, h3, fun a ma b mb eab => ?_⟩⟩
      · rcases List.mem_append.mp ma with z | z
        · exact .inl (List.mem_append_left _ z)
        · rcases h2 a z with z | z
          · exact .inl (List.mem_append_right _ z)
          · exact .inr z
      · subst eab
        rcases h2 a mb with z | z
        · exact n3 a ma a z rfl
        · exact n3 a ma a (hs a (hs' a z (List.mem_append_left _ ma))) rfl
theorem LRep.setNew {bs : List Addr} {k : Nat} {b : Addr} {vs : List V} (h : LRep K B H bs dss) (hv : H b = Option.some (.lst vs)) (hd : DqAll K B vs ds) : LRep K B H (bs.set k b) (dss.set k ds) := by
  induction h generalizing k with
  | nil => exact .nil
  | cons e q t ih =>
    cases k with
    | zero => exact .cons hv hd t
    | succ k => exact .cons e q ih
/-- o.f[k] = a new list -/
theorem wp_bigSetLL {k0 : Int} {k : Nat} (e : δ[i]? = some (hold K C p fs F)) (l : fget f fs = some (.ll dss)) (c : Cls K C) (n : NoAttr K C f) (h : EN K te δ ds) (hb : ED K tb δ (.int k0)) (hk : ixN dss.length k0 = some k)
    (q : ∀ F', E.nx (δ.set i (hold K C p (putD f (.ll (dss.set k ds)) fs) F'))) : WP K (tAsg te (gSub (tFld K (tVar i) f) tb L2.rSetL)) E δ := fun B0 H0 B H σ D L S =>
  h B0 H0 B H σ _ S fun b us B1 H1 s1 nb bb hb1 db => by
    have S1 := S.step s1
    obtain ⟨dx, ws, G, a1, hp, r, rfl, nd, hF⟩ := S1.slotBig e
    obtain ⟨n1, n2⟩ := List.nodup_cons.mp nd
    obtain ⟨v, as, hv, ⟨a, bs, rfl, rfl, ha, lr⟩, hs, hn, hsw⟩ := FsRep.swap r l n2
    refine ⟨_, a1, p, C, dx, ws, _, rfl, hp, c, n, hv, hb B0 H0 B1 H1 σ _ S1 fun w B2 H2 s2 y => ?_⟩
    cases Dq.int_inv y
    have S2 := S1.step s2
    obtain ⟨dx2, ws2, G2, a2, hp2, r2, eF, nd2, hF2⟩ := S2.slotBig e
    have eG : G = G2 := by injection eF
    subst eG
    rw [s2.hh.at hp] at hp2; cases hp2
    obtain ⟨v2, as2, hv2, ⟨a', bs', rfl, rfl, ha2, lr2⟩, hs2, hn2, hsw2⟩ := FsRep.swap r2 l n2
    rw [hv] at hv2; cases hv2
    have hb2 : H2 b = some (.lst us) := s2.hh.at hb1
    have bb2 : B2 b = none := s2.fr b (by rw [hb1]; exact fun z => nomatch z) bb
    have nbF : ∀ c ∈ p :: G, c ≠ b := fun c mc z => by
      subst z
      have S0 := S
      obtain ⟨dx0, ws0, G0, _, _, _, eF0, _, hF0⟩ := S0.slotBig e
      exact (hF0 c mc).1 nb
    have nba : a ≠ b := nbF a (List.mem_cons_of_mem _ (hs2 a (List.mem_cons_self ..)))
    refine ⟨a, bs'.map V.ref, k0, k, rfl, rfl, ha2, by rw [List.length_map, lr2.len]; exact hk, ?_⟩
    have am : a ∈ G := hs2 a (List.mem_cons_self ..)
    have h0b : H0 b = none := S.hist.hh.free nb
    have sam : ∀ c o, c ≠ a → H2 c = some o → upd H2 a (.lst ((bs'.map V.ref).set k (.ref b))) c = some o := fun c o hc ec => (upd_ne hc).trans ec
    have bsne : ∀ c ∈ bs', c ≠ a := fun c mc z => (List.nodup_cons.mp hn2).1 (z ▸ mc)
    obtain ⟨G', g1, g2, g3⟩ := hsw2 (.ll (dss.set k ds)) (a :: bs'.set k b) B2 (upd H2 a (.lst ((bs'.map V.ref).set k (.ref b)))) (fun _ _ z => z) (fun c mc nc o ec _ => sam c o (fun z => nc (z ▸ List.mem_cons_self ..)) ec)
      ⟨a, bs'.set k b, rfl, rfl, by rw [upd_same, List.map_set], (LRep.step (fun _ _ z => z) lr2 fun c mc o ec _ => sam c o (bsne c mc) ec).setNew (sam b _ (Ne.symm nba) hb2) (DqAll.up s2.bb _ _ db)⟩
      (List.nodup_cons.mpr ⟨fun m => by
        rcases List.mem_or_eq_of_mem_set m with z | z
        · exact (List.nodup_cons.mp hn2).1 z
        · exact nba z, nodup_set (List.nodup_cons.mp hn2).2 fun m => nbF b (List.mem_cons_of_mem _ (hs2 b (List.mem_cons_of_mem _ m))) rfl⟩)
      (fun c mc mG => by
        rcases List.mem_cons.mp mc with rfl | mc
        · exact List.mem_cons_self ..
        · rcases List.mem_or_eq_of_mem_set mc with z | z
          · exact List.mem_cons_of_mem _ z
          · exact absurd z (nbF c (List.mem_cons_of_mem _ mG)))
    have memG : ∀ c ∈ G', c ∈ G ∨ c = b := fun c mc => by
      rcases g2 c mc with z | z
      · exact .inl z
      · rcases List.mem_cons.mp z with rfl | z
        · exact .inl am
        · rcases List.mem_or_eq_of_mem_set z with z | z
          · exact .inl (hs2 c (List.mem_cons_of_mem _ z))
          · exact .inr z
    have np : p ∉ G' := fun m => (memG p m).elim (List.nodup_cons.mp nd2).1 fun z => nbF p (List.mem_cons_self ..) z
    have pa : p ≠ a := fun z => (List.nodup_cons.mp nd2).1 (z ▸ am)
    refine L.nx _ _ B2 _ (S2.bigTo (F' := p :: G') (R' := BigR K C p (putD f (.ll (dss.set k ds)) fs) (p :: G')) e ⟨Sam.refl _, ⟨fun c o ec => ?_, S2.hist.bh.tb.upd (.inr ⟨_, ha2, nt_lst⟩) nt_lst.1⟩, fun c o ec nc => ⟨o, sam c o (fun z => nc (z ▸ List.mem_cons_of_mem _ am)) ec, fun _ => rfl⟩, fun c _ _ z => z⟩ (fun c mc => ?_) (fun u eu => ?_) BigR.stab) (q (p :: G'))
    · have : c ≠ a := fun z => by subst z; rw [(hF2 c (List.mem_cons_of_mem _ am)).2.1] at ec; cases ec
      rw [upd_ne this]; exact S2.hist.bh.sm _ _ ec
    · have stays : H2 c ≠ none → upd H2 a (.lst ((bs'.map V.ref).set k (.ref b))) c ≠ none := fun hc => by
        by_cases z : c = a
        · rw [z, upd_same]; exact fun z => nomatch z
        · rw [upd_ne z]; exact hc
      rcases List.mem_cons.mp mc with rfl | mc
      · obtain ⟨h1, h2, h3⟩ := hF2 c (List.mem_cons_self ..)
        exact ⟨stays h1, h2, h3, .inl (List.mem_cons_self ..)⟩
      · rcases memG c mc with z | rfl
        · obtain ⟨h1, h2, h3⟩ := hF2 c (List.mem_cons_of_mem _ z)
          exact ⟨stays h1, h2, h3, .inl (List.mem_cons_of_mem _ z)⟩
        · exact ⟨stays (by rw [hb2]; exact fun z => nomatch z), bb2, h0b, .inr fun j t o _ e1 e2 => new_foot (S := S) nb j t o e1 e2⟩
    · rw [a2] at eu; cases eu
      exact ⟨rfl, dx, ws, G', (upd_ne pa).trans (s2.hh.at hp), g1, rfl, List.nodup_cons.mpr ⟨np, g3⟩⟩
end
end DX

namespace DX
open PySem L2
variable [TabEnv]
/-! ### a row of an object's list under a name of its own -/
section
variable {K : PySem.W.Frag} {B0 H0 B H B' H' : Hp} {σ : L2.St} {δ δ' : List SV} {ta tb tc te : TE} {tt : TT} {t : TS} {d x y : D} {ds es : List D} {dss : List (List D)} {E : EndsD} {C p b : Addr} {bs : List Addr} {fs fs' : FM} {F F' : List Addr} {i j k : Nat} {f m : Str} {tr : Bool}
theorem Sd.reFld {x x' : FD} (S : Sd K B0 H0 B H σ δ) (e : δ[i]? = some (hold K C p fs F)) (l : fget f fs = some x) (hx : ∀ v as, FRep K B H x v as → FRep K B H x' v as) : Sd K B0 H0 B H σ (δ.set i (hold K C p (putD f x' fs) F)) := by
  obtain ⟨dx, ws, G, a1, hp, r, rfl, nd, hF⟩ := S.slotBig e
  obtain ⟨v, as, hl, hr, hs, hn, hput⟩ := r.get l (List.nodup_cons.mp nd).2
  have r' := hput x' B H (fun _ _ z => z) (fun _ _ _ o e _ => e) (hx v as hr)
  exact S.bigTo e ⟨Sam.refl _, S.hist.bh, fun a o e _ => ⟨o, e, fun _ => rfl⟩, fun _ _ _ z => z⟩ (fun a ma => ⟨(hF a ma).1, (hF a ma).2.1, (hF a ma).2.2, .inl ma⟩) (fun v ev => by
    rw [a1] at ev; cases ev
    exact ⟨rfl, dx, ws, G, hp, r', rfl, nd⟩) BigR.stab
/-- the rows' addresses are named -/
theorem wp_open (e : δ[i]? = some (hold K C p fs F)) (l : fget f fs = some (.ll dss)) (h : ∀ bs : List Addr, bs.length = dss.length → WP K t E (δ.set i (hold K C p (putD f (.la bs dss) fs) F))) : WP K t E δ := fun B0 H0 B H σ D L S => by
  obtain ⟨dx, ws, G, a1, hp, r, rfl, nd, hF⟩ := S.slotBig e
  obtain ⟨v, as, hl, ⟨a, bs, rfl, rfl, ha, lr⟩, hs, hn, hput⟩ := r.get l (List.nodup_cons.mp nd).2
  have r' := hput (.la bs dss) B H (fun _ _ z => z) (fun _ _ _ o e _ => e) ⟨a, rfl, rfl, ha, lr⟩
  refine h bs lr.len B0 H0 B H σ D L ?_
  exact S.bigTo e ⟨Sam.refl _, S.hist.bh, fun a o e _ => ⟨o, e, fun _ => rfl⟩, fun _ _ _ z => z⟩ (fun a ma => ⟨(hF a ma).1, (hF a ma).2.1, (hF a ma).2.2, .inl ma⟩) (fun v ev => by
    rw [a1] at ev; cases ev
    exact ⟨rfl, dx, ws, G, hp, r', rfl, nd⟩) BigR.stab
/-- .. and forgotten -/
theorem wp_close (e : δ[i]? = some (hold K C p fs F)) (l : fget f fs = some (.la bs dss)) (h : WP K t E (δ.set i (hold K C p (putD f (.ll dss) fs) F))) : WP K t E δ := fun B0 H0 B H σ D L S =>
  h B0 H0 B H σ D L (S.reFld e l fun v as ⟨a, e1, e2, e3, e4⟩ => ⟨a, bs, e1, e2, e3, e4⟩)
/-- a slot that holds the address b -/
abbrev adr (b : Addr) : SV := .big (fun _ _ v => v = .ref b) []
theorem adr_ok : SlotOk K B H H0 (some (.ref b)) (adr b) := ⟨_, rfl, rfl, fun _ _ _ _ _ h _ _ => h, fun a ma => by cases ma⟩
theorem Sd.slotLA (S : Sd K B0 H0 B H σ δ) (e : δ[i]? = some (hold K C p fs F)) (l : fget f fs = some (.la bs dss)) : ∃ (dx : Addr) (ws : List (Str × V)) (a : Addr), σ[i]? = some (some (.ref p)) ∧ H p = some (.ins C dx ws) ∧ ws.lookup f = some (.ref a) ∧ H a = some (.lst (bs.map V.ref)) ∧ LRep K B H bs dss ∧ ∀ c ∈ bs, c ∈ F ∧ c ≠ p := by
  obtain ⟨dx, ws, G, a1, hp, r, rfl, nd, hF⟩ := S.slotBig e
  obtain ⟨n1, n2⟩ := List.nodup_cons.mp nd
  obtain ⟨v, as, hl, ⟨a, rfl, rfl, ha, lr⟩, hs, hn, hput⟩ := r.get l n2
  exact ⟨dx, ws, a, a1, hp, hl, ha, lr, fun c mc => ⟨List.mem_cons_of_mem _ (hs c (List.mem_cons_of_mem _ mc)), fun z => n1 (z ▸ hs c (List.mem_cons_of_mem _ mc))⟩⟩
/-- row = o.f[k] -/
theorem wp_asgAl {k0 : Int} (e : δ[i]? = some (hold K C p fs F)) (l : fget f fs = some (.la bs dss)) (c : Cls K C) (n : NoAttr K C f) (hb : ED K tb δ (.int k0)) (hk : ixN bs.length k0 = some k) (hb2 : bs[k]? = some b) (q : E.nx (δ.set j (adr b))) :
    WP K (tAsg (tOp (rIx K) (tFld K (tVar i) f) tb) (gName j)) E δ := fun B0 H0 B H σ D L S => by
  obtain ⟨dx, ws, a, a1, hp, hl, ha, lr, _⟩ := S.slotLA e l
  refine ⟨_, a1, p, C, dx, ws, _, rfl, hp, c, n, hl, hb B0 H0 B H σ _ S fun w B2 H2 s2 y => ?_⟩
  cases Dq.int_inv y
  have it : atI (bs.map V.ref) k0 = some (.ref b) := by
    unfold atI
    rw [List.length_map, hk]
    show (bs.map V.ref)[k]? = _
    rw [List.getElem?_map, hb2]; rfl
  exact .inl ⟨_, _, k0, _, rfl, rfl, .inl (.inl (s2.hh.at ha)), it, L.nx _ _ B2 _ ((S.step s2).set adr_ok fun _ z => by cases z) q⟩
theorem LRep.nth {bs : List Addr} {dss : List (List D)} (h : LRep K B H bs dss) : ∀ {k : Nat}, bs[k]? = Option.some b → dss[k]? = Option.some ds → ∃ vs, H b = Option.some (.lst vs) ∧ DqAll K B vs ds := by
  induction h with
  | nil => intro k e; cases k <;> cases e
  | cons e q _ ih =>
    intro k e1 e2
    cases k with
    | zero => cases e1; cases e2; exact ⟨_, e, q⟩
    | succ k => exact ih e1 e2
theorem Sd.reSlot {v : V} (S : Sd K B0 H0 B H σ δ) (hj : σ[j]? = some (some v)) (h : Dq K B v d) : Sd K B0 H0 B H σ (δ.set j (.val d)) := by
  have := S.setVal (i := j) h
  have e : σ.set j (some v) = σ := by
    apply List.ext_getElem?
    intro k
    by_cases hk : j = k
    · subst hk
      rw [List.getElem?_set_self (List.getElem?_eq_some_iff.mp hj).1, hj]
    · rw [List.getElem?_set_ne hk]
  rw [e] at this
  exact this
/-- the object is only read, and so is the row -/
theorem Sd.frzRow (S : Sd K B0 H0 B H σ δ) (e : δ[i]? = some (hold K C p fs F)) (hd : (fs.map Prod.fst).Nodup) (l : fget f fs = some (.la bs dss)) (ij : i ≠ j) (ej : δ[j]? = some (adr b)) (hb : bs[k]? = some b) (hk : dss[k]? = some ds) :
    ∃ G : List Addr, F = p :: G ∧ (∀ a ∈ G, B a = none ∧ H a ≠ none) ∧ Sam B (frzB G B H) ∧ Sd K B0 H0 (frzB G B H) H σ ((δ.set i (.ob C (kn fs))).set j (.val (.list ds))) := by
  obtain ⟨dx, ws, a, a1, hp, hl, ha, lr, hin⟩ := S.slotLA e l
  obtain ⟨G, rfl, hG, k1, _, S'⟩ := S.frzBig e hd
  obtain ⟨vs, hv, dv⟩ := lr.nth hb hk
  obtain ⟨o, eo, v, rfl, rfl, _⟩ := S.ok j _ ej
  refine ⟨G, rfl, hG, k1, S'.reSlot eo (.lst (.inl (.inl ?_)) (DqAll.up k1 _ _ dv))⟩
  obtain ⟨m1, m2⟩ := hin b (List.mem_of_getElem? hb)
  have mG : b ∈ G := (List.mem_cons.mp m1).resolve_left m2
  exact (if_pos mG).trans hv
theorem ed_row (e : δ[i]? = some (hold K C p fs F)) (hd : (fs.map Prod.fst).Nodup) (l : fget f fs = some (.la bs dss)) (ij : i ≠ j) (ej : δ[j]? = some (adr b)) (hb : bs[k]? = some b) (hk : dss[k]? = some ds) (hs : Pln d) (h : ED K te ((δ.set i (.ob C (kn fs))).set j (.val (.list ds))) d) : ED K te δ d := fun B0 H0 B H σ Q S q => by
  obtain ⟨G, rfl, hG, k1, S'⟩ := S.frzRow e hd l ij ej hb hk
  exact h B0 H0 _ H σ Q S' fun v B2 H2 s dv => q v (wo G B2) H2 (Stp.thawB hG k1 s) (hs.dq dv)
theorem et_row (e : δ[i]? = some (hold K C p fs F)) (hd : (fs.map Prod.fst).Nodup) (l : fget f fs = some (.la bs dss)) (ij : i ≠ j) (ej : δ[j]? = some (adr b)) (hb : bs[k]? = some b) (hk : dss[k]? = some ds) (h : ET K tt ((δ.set i (.ob C (kn fs))).set j (.val (.list ds))) tr) : ET K tt δ tr := fun B0 H0 B H σ Q S q => by
  obtain ⟨G, rfl, hG, k1, S'⟩ := S.frzRow e hd l ij ej hb hk
  exact h B0 H0 _ H σ Q S' fun B2 H2 s => q (wo G B2) H2 (Stp.thawB hG k1 s)
theorem en_row (e : δ[i]? = some (hold K C p fs F)) (hd : (fs.map Prod.fst).Nodup) (l : fget f fs = some (.la bs dss)) (ij : i ≠ j) (ej : δ[j]? = some (adr b)) (hb : bs[k]? = some b) (hk : dss[k]? = some ds) (hs : ∀ d ∈ es, Pln d) (h : EN K te ((δ.set i (.ob C (kn fs))).set j (.val (.list ds))) es) : EN K te δ es := fun B0 H0 B H σ Q S q => by
  obtain ⟨G, rfl, hG, k1, S'⟩ := S.frzRow e hd l ij ej hb hk
  exact h B0 H0 _ H σ Q S' fun l vs B2 H2 s nl bl hl da => q l vs (wo G B2) H2 (Stp.thawB hG k1 s) nl (by rw [wo_out (frz_new hG nl)]; exact bl) hl (Pln.all hs da)
/-- o.f[k] = a new list, the rows' addresses named -/
theorem wp_bigSetLA {k0 : Int} {k : Nat} (e : δ[i]? = some (hold K C p fs F)) (l : fget f fs = some (.la bs dss)) (c : Cls K C) (n : NoAttr K C f) (h : EN K te δ ds) (hb : ED K tb δ (.int k0)) (hk : ixN dss.length k0 = some k)
    (q : ∀ F', E.nx (δ.set i (hold K C p (putD f (.ll (dss.set k ds)) fs) F'))) : WP K (tAsg te (gSub (tFld K (tVar i) f) tb L2.rSetL)) E δ := fun B0 H0 B H σ D L S =>
  h B0 H0 B H σ _ S fun b us B1 H1 s1 nb bb hb1 db => by
    have S1 := S.step s1
    obtain ⟨dx, ws, G, a1, hp, r, rfl, nd, hF⟩ := S1.slotBig e
    obtain ⟨n1, n2⟩ := List.nodup_cons.mp nd
    obtain ⟨v, as, hv, ⟨a, rfl, rfl, ha, lr⟩, hs, hn, hsw⟩ := FsRep.swap r l n2
    refine ⟨_, a1, p, C, dx, ws, _, rfl, hp, c, n, hv, hb B0 H0 B1 H1 σ _ S1 fun w B2 H2 s2 y => ?_⟩
    cases Dq.int_inv y
    have S2 := S1.step s2
    obtain ⟨dx2, ws2, G2, a2, hp2, r2, eF, nd2, hF2⟩ := S2.slotBig e
    have eG : G = G2 := by injection eF
    subst eG
    rw [s2.hh.at hp] at hp2; cases hp2
    obtain ⟨v2, as2, hv2, ⟨a', rfl, rfl, ha2, lr2⟩, hs2, hn2, hsw2⟩ := FsRep.swap r2 l n2
    rw [hv] at hv2; cases hv2
    have hb2 : H2 b = some (.lst us) := s2.hh.at hb1
    have bb2 : B2 b = none := s2.fr b (by rw [hb1]; exact fun z => nomatch z) bb
    have nbF : ∀ c ∈ p :: G, c ≠ b := fun c mc z => by
      subst z
      have S0 := S
      obtain ⟨dx0, ws0, G0, _, _, _, eF0, _, hF0⟩ := S0.slotBig e
      exact (hF0 c mc).1 nb
    have nba : a ≠ b := nbF a (List.mem_cons_of_mem _ (hs2 a (List.mem_cons_self ..)))
    refine ⟨a, bs.map V.ref, k0, k, rfl, rfl, ha2, by rw [List.length_map, lr2.len]; exact hk, ?_⟩
    have am : a ∈ G := hs2 a (List.mem_cons_self ..)
    have h0b : H0 b = none := S.hist.hh.free nb
    have sam : ∀ c o, c ≠ a → H2 c = some o → upd H2 a (.lst ((bs.map V.ref).set k (.ref b))) c = some o := fun c o hc ec => (upd_ne hc).trans ec
    have bsne : ∀ c ∈ bs, c ≠ a := fun c mc z => (List.nodup_cons.mp hn2).1 (z ▸ mc)
    obtain ⟨G', g1, g2, g3⟩ := hsw2 (.ll (dss.set k ds)) (a :: bs.set k b) B2 (upd H2 a (.lst ((bs.map V.ref).set k (.ref b)))) (fun _ _ z => z) (fun c mc nc o ec _ => sam c o (fun z => nc (z ▸ List.mem_cons_self ..)) ec)
      ⟨a, bs.set k b, rfl, rfl, by rw [upd_same, List.map_set], (LRep.step (fun _ _ z => z) lr2 fun c mc o ec _ => sam c o (bsne c mc) ec).setNew (sam b _ (Ne.symm nba) hb2) (DqAll.up s2.bb _ _ db)⟩
      (List.nodup_cons.mpr ⟨fun m => by
        rcases List.mem_or_eq_of_mem_set m with z | z
        · exact (List.nodup_cons.mp hn2).1 z
        · exact nba z, nodup_set (List.nodup_cons.mp hn2).2 fun m => nbF b (List.mem_cons_of_mem _ (hs2 b (List.mem_cons_of_mem _ m))) rfl⟩)
      (fun c mc mG => by
        rcases List.mem_cons.mp mc with rfl | mc
        · exact List.mem_cons_self ..
        · rcases List.mem_or_eq_of_mem_set mc with z | z
          · exact List.mem_cons_of_mem _ z
          · exact absurd z (nbF c (List.mem_cons_of_mem _ mG)))
    have memG : ∀ c ∈ G', c ∈ G ∨ c = b := fun c mc => by
      rcases g2 c mc with z | z
      · exact .inl z
      · rcases List.mem_cons.mp z with rfl | z
        · exact .inl am
        · rcases List.mem_or_eq_of_mem_set z with z | z
          · exact .inl (hs2 c (List.mem_cons_of_mem _ z))
          · exact .inr z
    have np : p ∉ G' := fun m => (memG p m).elim (List.nodup_cons.mp nd2).1 fun z => nbF p (List.mem_cons_self ..) z
    have pa : p ≠ a := fun z => (List.nodup_cons.mp nd2).1 (z ▸ am)
    refine L.nx _ _ B2 _ (S2.bigTo (F' := p :: G') (R' := BigR K C p (putD f (.ll (dss.set k ds)) fs) (p :: G')) e ⟨Sam.refl _, ⟨fun c o ec => ?_, S2.hist.bh.tb.upd (.inr ⟨_, ha2, nt_lst⟩) nt_lst.1⟩, fun c o ec nc => ⟨o, sam c o (fun z => nc (z ▸ List.mem_cons_of_mem _ am)) ec, fun _ => rfl⟩, fun c _ _ z => z⟩ (fun c mc => ?_) (fun u eu => ?_) BigR.stab) (q (p :: G'))
    · have : c ≠ a := fun z => by subst z; rw [(hF2 c (List.mem_cons_of_mem _ am)).2.1] at ec; cases ec
      rw [upd_ne this]; exact S2.hist.bh.sm _ _ ec
    · have stays : H2 c ≠ none → upd H2 a (.lst ((bs.map V.ref).set k (.ref b))) c ≠ none := fun hc => by
        by_cases z : c = a
        · rw [z, upd_same]; exact fun z => nomatch z
        · rw [upd_ne z]; exact hc
      rcases List.mem_cons.mp mc with rfl | mc
      · obtain ⟨h1, h2, h3⟩ := hF2 c (List.mem_cons_self ..)
        exact ⟨stays h1, h2, h3, .inl (List.mem_cons_self ..)⟩
      · rcases memG c mc with z | rfl
        · obtain ⟨h1, h2, h3⟩ := hF2 c (List.mem_cons_of_mem _ z)
          exact ⟨stays h1, h2, h3, .inl (List.mem_cons_of_mem _ z)⟩
        · exact ⟨stays (by rw [hb2]; exact fun z => nomatch z), bb2, h0b, .inr fun j t o _ e1 e2 => new_foot (S := S) nb j t o e1 e2⟩
    · rw [a2] at eu; cases eu
      exact ⟨rfl, dx, ws, G', (upd_ne pa).trans (s2.hh.at hp), g1, rfl, List.nodup_cons.mpr ⟨np, g3⟩⟩
end
end DX

namespace DX
open PySem L2
variable [TabEnv]
section
variable {K : PySem.W.Frag} {δ : List SV} {te : TE} {C p : Addr} {fs : FM} {F : List Addr} {i : Nat}
/-- a reading of an object that changes, frozen for the while -/
theorem ep_frz {P : D → Prop} (e : δ[i]? = some (hold K C p fs F)) (hn : NoM fs) (hd : (fs.map Prod.fst).Nodup) (h : EP K te (δ.set i (.ob C (kn fs))) P) (ht : ∀ d, P d → Thin d) : EP K te δ P := fun B0 H0 B H σ Q S q => by
  obtain ⟨G, rfl, hG, k1, hl, S'⟩ := S.frzBig e hd
  refine h B0 H0 _ H σ Q S' fun v B2 H2 d s dv pd => q v (wo G B2) H2 d (Stp.thawB hG k1 s) ((ht d pd).off (fun a ma => ?_) dv) pd
  obtain ⟨vs, ev⟩ := hl hn a ma
  exact ⟨vs, s.bb.at ((if_pos ma).trans ev)⟩
end
end DX

namespace DX
open PySem L2
variable [TabEnv]
section
variable {K : PySem.W.Frag} {B0 H0 B H B' H' : Hp} {σ : L2.St} {δ δ' : List SV} {ta tb te : TE} {t : TS} {d : D} {ds : List D} {dss : List (List D)} {x : FD} {F : List Addr} {i : Nat} {E : EndsD} {b : Bool}
/-! ### a list that is written beside a frame's slots -/
theorem Sd.inL {L : Addr} {vs : List V} (S : Sd K B0 H0 B H σ δ) (hL : H L = some (.lst vs)) (bL : B L = none) (hf : ∀ (j : Nat) (t : SV) (q : Option V), δ[j]? = some t → σ[j]? = some q → L ∉ foot t q) : Sd K B0 (upd H0 L (.lst vs)) B H σ δ := by
  refine ⟨⟨S.hist.bb, S.hist.bh, fun a o ea => ?_, fun a q z => ?_⟩, S.len, fun j s ej => ?_, S.apart⟩
  · by_cases h : a = L
    · subst h; rw [upd_same] at ea; cases ea; exact ⟨_, hL, fun _ => rfl⟩
    · rw [upd_ne h] at ea; exact S.hist.hh a o ea
  · by_cases h : a = L
    · subst h; exact bL
    · rw [upd_ne h] at q; exact S.hist.fr a q z
  · obtain ⟨o, eo, ok⟩ := S.ok j s ej
    have aw := hf j s o ej eo
    refine ⟨o, eo, ?_⟩
    cases s with
    | no => exact True.intro
    | val d => exact ok
    | ob C fs => exact ok
    | own xo =>
      obtain ⟨pp, us, rfl, h1, h2, h3, h4⟩ := ok
      have : pp ≠ L := fun z => aw (List.mem_singleton.mpr z.symm)
      exact ⟨pp, us, rfl, h1, h2, by rw [upd_ne this]; exact h3, h4⟩
    | big R F =>
      obtain ⟨v, e, r, st, ha⟩ := ok
      refine ⟨v, e, r, st, fun a ma => ?_⟩
      obtain ⟨h1, h2, h3⟩ := ha a ma
      have : a ≠ L := fun z => aw (z ▸ ma)
      exact ⟨h1, h2, by rw [upd_ne this]; exact h3⟩
theorem Sd.outL {L : Addr} {vs : List V} (S : Sd K B0 H0 B H σ δ) (h0 : H0 L ≠ none) (hL : H L = some (.lst vs)) : ∀ (j : Nat) (t : SV) (q : Option V), δ[j]? = some t → σ[j]? = some q → L ∉ foot t q := fun j t q ej eq m => by
  obtain ⟨o, eo, ok⟩ := S.ok j t ej
  rw [eq] at eo; cases eo
  cases t with
  | no => cases m
  | val d => cases m
  | ob C fs =>
    obtain ⟨pp, dx, ws, rfl, hp, _⟩ := ok
    rw [List.mem_singleton.mp m] at hL
    rw [hL] at hp; cases hp
  | own xo =>
    obtain ⟨pp, us, rfl, _, _, h3, _⟩ := ok
    rw [List.mem_singleton.mp m] at h0
    exact h0 h3
  | big R F =>
    obtain ⟨v, e, r, st, ha⟩ := ok
    exact h0 (ha L m).2.2
theorem Sd.setL {L : Addr} {vs ws : List V} (S : Sd K B0 H0 B H σ δ) (h0 : H0 L = some (.lst vs)) (hL : H L = some (.lst vs)) (bL : B L = none) : Sd K B0 (upd H0 L (.lst ws)) B (upd H L (.lst ws)) σ δ := by
  have hf := S.outL (by rw [h0]; exact fun z => nomatch z) hL
  refine ⟨⟨S.hist.bb, ⟨fun a o ea => ?_, S.hist.bh.tb.upd (.inr ⟨_, hL, nt_lst⟩) nt_lst.1⟩, fun a o ea => ?_, fun a q z => ?_⟩, S.len, fun j s ej => ?_, S.apart⟩
  · have : a ≠ L := fun z => by subst z; rw [bL] at ea; cases ea
    rw [upd_ne this]; exact S.hist.bh.sm _ _ ea
  · by_cases h : a = L
    · subst h; rw [upd_same] at ea ⊢; exact ⟨_, ea, fun _ => rfl⟩
    · rw [upd_ne h] at ea ⊢; exact S.hist.hh a o ea
  · by_cases h : a = L
    · subst h; exact bL
    · rw [upd_ne h] at q; exact S.hist.fr a q z
  · obtain ⟨o, eo, ok⟩ := S.ok j s ej
    have aw := hf j s o ej eo
    refine ⟨o, eo, ?_⟩
    cases s with
    | no => exact True.intro
    | val d => exact ok
    | ob C fs =>
      obtain ⟨pp, dx, us, rfl, hp, r⟩ := ok
      have : pp ≠ L := fun z => aw (List.mem_singleton.mpr z.symm)
      exact ⟨pp, dx, us, rfl, by rw [upd_ne this]; exact hp, r⟩
    | own xo =>
      obtain ⟨pp, us, rfl, h1, h2, h3, h4⟩ := ok
      have : pp ≠ L := fun z => aw (List.mem_singleton.mpr z.symm)
      exact ⟨pp, us, rfl, by rw [upd_ne this]; exact h1, h2, by rw [upd_ne this]; exact h3, h4⟩
    | big R F =>
      obtain ⟨v, e, r, st, ha⟩ := ok
      have hne : ∀ a ∈ F, a ≠ L := fun a ma z => aw (z ▸ ma)
      refine ⟨v, e, st _ _ _ _ v r (fun w d z => z) (fun a ma o eo _ => by rw [upd_ne (hne a ma)]; exact eo), st, fun a ma => ?_⟩
      obtain ⟨h1, h2, h3⟩ := ha a ma
      exact ⟨by rw [upd_ne (hne a ma)]; exact h1, h2, by rw [upd_ne (hne a ma)]; exact h3⟩
theorem flat_take_succ {α β : Type} {f : α → List β} {xs : List α} {i : Nat} {x : α} (h : xs[i]? = some x) : (xs.take (i + 1)).flatMap f = (xs.take i).flatMap f ++ f x := by
  rw [List.take_add_one, h, List.flatMap_append]
  show _ ++ [x].flatMap f = _
  rw [List.flatMap_singleton]
theorem flat_take_len {α β : Type} {f : α → List β} {xs : List α} {M : Nat} (h : ∀ x ∈ xs, (f x).length ≤ M) : ∀ i, ((xs.take i).flatMap f).length ≤ xs.length * M := fun i => by
  rw [List.length_flatMap]
  have : ∀ l : List α, (∀ x ∈ l, (f x).length ≤ M) → (l.map fun x => (f x).length).sum ≤ l.length * M := fun l => by
    induction l with
    | nil => intro _; exact Nat.zero_le _
    | cons a l ih =>
      intro hl
      rw [List.map_cons, List.sum_cons, List.length_cons, Nat.succ_mul]
      have := ih fun x mx => hl x (List.mem_cons_of_mem _ mx)
      have := hl a (List.mem_cons_self ..)
      omega
  have h1 := this (xs.take i) fun x mx => h x (List.mem_of_mem_take mx)
  have h2 : (xs.take i).length * M ≤ xs.length * M := Nat.mul_le_mul_right _ (by rw [List.length_take]; omega)
  omega
/-- [elt for .. for ..], the second source may hang on the first target -/
theorem en_lc22 {α β : Type} {xs : List α} {ys : α → List β} {gd : α → D} {gd1 : β → D} {wi wi1 : TI} {g g1 : TG} {vs vs1 : List Nat} {f : α → β → D} {af : α → List SV} {af1 : α → β → List SV} {M : Nat} (hw : EI K wi δ (xs.map gd)) (hM : ∀ x ∈ xs, (ys x).length ≤ M) (hl : xs.length * M < sizeLine)
    (hg : ∀ x, x ∈ xs → GW K g vs (wipeD δ vs) (gd x) (af x)) (hw1 : ∀ x, x ∈ xs → EI K wi1 (af x) ((ys x).map gd1)) (hg1 : ∀ x, x ∈ xs → ∀ y, y ∈ ys x → GW K g1 vs1 (wipeD (af x) vs1) (gd1 y) (af1 x y))
    (he : ∀ x, x ∈ xs → ∀ y, y ∈ ys x → ED K te (af1 x y) (f x y)) : EN K (tLc2 wi g tYes wi1 g1 tYes te vs vs1) δ (xs.flatMap fun x => (ys x).map (f x)) := fun B0 H0 B H σ Q S q =>
  hw B0 H0 B H σ _ S fun J B1 H1 s1 yd L nL => by
    have S1 := S.step s1
    have hfoot := new_foot (S := S1) nL
    have h0L := S1.hist.hh.free nL
    have fl : ∀ x ∈ xs, ((ys x).map (f x)).length ≤ M := fun x mx => by rw [List.length_map]; exact hM x mx
    refine ⟨fun k m H' => m = xs.length - k ∧ k ≤ xs.length ∧ ∃ B' acc, Sd K B1 H0 B' H' σ δ ∧ B' L = none ∧ H' L = some (.lst acc) ∧ DqAll K B' acc ((xs.take k).flatMap fun x => (ys x).map (f x)) ∧ Stp B1 H1 B' H', ⟨_, rfl, Nat.zero_le _, B1, [], ?_, s1.bh.free nL, upd_same, ?_, .newOwn s1.bh nL⟩, ?_⟩
    · exact (S1.past S1.hist.bb (Sam.refl _)).step (.newOwn s1.bh nL)
    · rw [List.take_zero]; exact .nil
    rintro k m H' ⟨rfl, hk, B', acc, S', bL, hL, hA, sp⟩
    obtain ⟨y1, y2⟩ := yd B' H' k S'.hist.bb S'.hist.bh
    by_cases hlt : k < xs.length
    · obtain ⟨go, yy⟩ := y1 (by rw [List.length_map]; exact hlt)
      refine .inr ⟨go, fun H'' => ∃ B'' acc, Sd K B1 H0 B'' H'' σ δ ∧ B'' L = none ∧ H'' L = some (.lst acc) ∧ DqAll K B'' acc ((xs.take (k + 1)).flatMap fun x => (ys x).map (f x)) ∧ Stp B1 H1 B'' H'', fun H'' z => ⟨xs.length - (k + 1), by omega, rfl, hlt, z⟩, fun x H2 yl => ?_⟩
      obtain ⟨B2, d', s2, ed', dp⟩ := yy x H2 yl
      have ed : xs[k]? = some xs[k] := List.getElem?_eq_getElem hlt
      have eg : d' = gd xs[k] := by
        rw [List.getElem?_map, ed] at ed'
        exact (Option.some.inj ed').symm
      subst eg
      have hm : xs[k] ∈ xs := List.getElem_mem hlt
      have hLne : H' L ≠ none := by rw [hL]; exact fun z => nomatch z
      have S2 := S'.step s2
      have hL2 : H2 L = some (.lst acc) := s2.hh.at hL
      have bL2 : B2 L = none := s2.fr L hLne bL
      have S2w : Sd K B1 (upd H0 L (.lst acc)) B2 H2 σ δ := S2.inL hL2 bL2 hfoot
      refine hg xs[k] hm B1 (upd H0 L (.lst acc)) B2 H2 _ _ _ (S2w.wipe vs) dp fun σ3 S3 ew => ⟨ew.trans wipe_wipe, tyes_true ?_⟩
      rw [if_pos rfl]
      refine hw1 xs[k] hm B1 (upd H0 L (.lst acc)) B2 H2 σ3 _ S3 fun J1 B4 H4 s4 yd1 => ?_
      have hL4 : H4 L = some (.lst acc) := s4.hh.at hL2
      have bL4 : B4 L = none := s4.fr L (by rw [hL2]; exact fun z => nomatch z) bL2
      refine ⟨fun j n H5 => n = (ys xs[k]).length - j ∧ j ≤ (ys xs[k]).length ∧ ∃ B5 acc5, Sd K B1 H0 B5 H5 σ δ ∧ Sd K B4 (upd H0 L (.lst acc5)) B5 H5 σ3 (af xs[k]) ∧ B5 L = none ∧ H5 L = some (.lst acc5) ∧ DqAll K B5 acc5 (((xs.take k).flatMap fun x => (ys x).map (f x)) ++ ((ys xs[k]).take j).map (f xs[k])) ∧ Stp B1 H1 B5 H5,
        ⟨_, rfl, Nat.zero_le _, B4, acc, S2.step s4, ((S3.step s4).past (S3.step s4).hist.bb (Sam.refl _)), bL4, hL4, ?_, (sp.trans s2).trans s4⟩, ?_⟩
      · rw [List.take_zero, List.map_nil, List.append_nil]
        exact DqAll.up (s2.trans s4).bb _ _ hA
      rintro j n H5 ⟨rfl, hj, B5, acc5, S5, T5, bL5, hL5, hA5, sp5⟩
      obtain ⟨z1, z2⟩ := yd1 B5 H5 j T5.hist.bb S5.hist.bh
      by_cases hjl : j < (ys xs[k]).length
      · obtain ⟨go1, yy1⟩ := z1 (by rw [List.length_map]; exact hjl)
        refine .inr ⟨go1, fun H6 => ∃ B6 acc6, Sd K B1 H0 B6 H6 σ δ ∧ Sd K B4 (upd H0 L (.lst acc6)) B6 H6 σ3 (af xs[k]) ∧ B6 L = none ∧ H6 L = some (.lst acc6) ∧ DqAll K B6 acc6 (((xs.take k).flatMap fun x => (ys x).map (f x)) ++ ((ys xs[k]).take (j + 1)).map (f xs[k])) ∧ Stp B1 H1 B6 H6, fun H6 z => ⟨(ys xs[k]).length - (j + 1), by omega, rfl, hjl, z⟩, fun x5 H6 yl5 => ?_⟩
        obtain ⟨B6, d6, s6, ed6, dp6⟩ := yy1 x5 H6 yl5
        have ey : (ys xs[k])[j]? = some (ys xs[k])[j] := List.getElem?_eq_getElem hjl
        have eg6 : d6 = gd1 (ys xs[k])[j] := by
          rw [List.getElem?_map, ey] at ed6
          exact (Option.some.inj ed6).symm
        subst eg6
        have hm1 : (ys xs[k])[j] ∈ ys xs[k] := List.getElem_mem hjl
        have T6 := T5.step s6
        refine hg1 xs[k] hm _ hm1 B4 (upd H0 L (.lst acc5)) B6 H6 _ _ _ (T6.wipe vs1) dp6 fun σ7 S7 ew7 => ⟨ew7.trans wipe_wipe, tyes_true ?_⟩
        rw [if_pos rfl]
        refine he xs[k] hm _ hm1 B4 (upd H0 L (.lst acc5)) B6 H6 σ7 _ S7 fun v B8 H8 s8 dv => ?_
        have st := s6.trans s8
        have hL5n : H5 L ≠ none := by rw [hL5]; exact fun z => nomatch z
        have hL8 : H8 L = some (.lst acc5) := st.hh.at hL5
        have bL8 : B8 L = none := st.fr L hL5n bL5
        have hA8 := DqAll.up st.bb _ _ hA5
        refine ⟨acc5, hL8, ?_, B8, acc5 ++ [v], (S5.step st).updFree bL8 h0L hfoot (.inr ⟨_, hL8, nt_lst⟩) nt_lst.1, ?_, bL8, upd_same, ?_, (sp5.trans st).updNew nL bL8 ⟨_, hL8, nt_lst⟩ nt_lst.1⟩
        · rw [hA8.len, List.length_append, List.length_map, List.length_take]
          have h1 := flat_take_len fl k
          have h2 := flat_take_len fl (k + 1)
          rw [flat_take_succ ed, List.length_append, List.length_map] at h2
          have : min j (ys xs[k]).length ≤ (ys xs[k]).length := Nat.min_le_right _ _
          omega
        · have := (T5.step st).setL (ws := acc5 ++ [v]) upd_same hL8 bL8
          rwa [show upd (upd H0 L (.lst acc5)) L (.lst (acc5 ++ [v])) = upd H0 L (.lst (acc5 ++ [v])) from by
            funext a
            by_cases h : a = L
            · subst h; rw [upd_same, upd_same]
            · rw [upd_ne h, upd_ne h, upd_ne h]] at this
        · rw [List.take_add_one, ey, List.map_append, ← List.append_assoc]
          exact hA8.app (.cons dv .nil)
      · have ej : j = (ys xs[k]).length := by omega
        subst ej
        refine .inl ⟨z2 (by rw [List.length_map]), B5, acc5, S5, bL5, hL5, ?_, sp5⟩
        rw [List.take_length] at hA5
        rw [flat_take_succ ed]
        exact hA5
    · have e : k = xs.length := by omega
      subst e
      rw [List.take_length] at hA
      exact .inl ⟨y2 (by rw [List.length_map]), q L acc B' H' (s1.trans sp) (s1.hh.free nL) bL hL hA⟩
/-! ### a group of lists under one name -/
abbrev grpR (K : PySem.W.Frag) (x : FD) (F : List Addr) : Hp → Hp → V → Prop := fun B H v => FRep K B H x v F ∧ F.Nodup
abbrev grp (K : PySem.W.Frag) (x : FD) (F : List Addr) : SV := .big (grpR K x F) F
theorem grp_stab : Stab K (grpR K x F) F := fun B H B' H' v h hd hh => ⟨h.1.step hd hh, h.2⟩
theorem wp_asgLL (h : ENN K te δ dss) (q : ∀ F, E.nx (δ.set i (grp K (.ll dss) F))) : WP K (tAsg te (gName i)) E δ := fun B0 H0 B H σ D L S =>
  h B0 H0 B H σ _ S fun a bs B1 H1 s1 nw nn ha lr => by
    refine L.nx _ H1 B1 _ ((S.step s1).set (x := grp K (.ll dss) (a :: bs)) ⟨.ref a, rfl, ⟨⟨a, bs, rfl, rfl, ha, lr⟩, nn⟩, grp_stab, fun b mb => ⟨?_, (nw b mb).2, S.hist.hh.free (nw b mb).1⟩⟩ fun b mb => new_apart S (nw b mb).1) (q _)
    rcases List.mem_cons.mp mb with rfl | mb
    · rw [ha]; exact fun z => nomatch z
    · obtain ⟨vs, e⟩ := lr.some b mb
      rw [e]; exact fun z => nomatch z
theorem Sd.grp (S : Sd K B0 H0 B H σ δ) (e : δ[i]? = some (grp K x F)) : ∃ v, σ[i]? = some (some v) ∧ FRep K B H x v F ∧ F.Nodup ∧ ∀ a ∈ F, H a ≠ none ∧ B a = none ∧ H0 a = none := by
  obtain ⟨o, eo, v, rfl, ⟨r, nd⟩, _, ha⟩ := S.ok i _ e
  exact ⟨v, eo, r, nd, ha⟩
theorem Sd.grpUpd {a : Addr} {u : HO} {x' : FD} (S : Sd K B0 H0 B H σ δ) (e : δ[i]? = some (DX.grp K x F)) (ha : a ∈ F) (hu : NT u) (hR : ∀ v, σ[i]? = some (some v) → FRep K B (upd H a u) x' v F) : Sd K B0 H0 B (upd H a u) σ (δ.set i (DX.grp K x' F)) := by
  obtain ⟨v, ev, r, nd, hF⟩ := S.grp e
  obtain ⟨o, eo, n1, n2⟩ := r.plain a ha
  refine S.bigTo e ⟨Sam.refl _, ⟨fun c oc ec => ?_, S.hist.bh.tb.upd (.inr ⟨o, eo, n1, n2⟩) hu⟩, fun c oc ec nc => ?_, fun c _ _ z => z⟩ (fun c mc => ⟨?_, (hF c mc).2.1, (hF c mc).2.2, .inl mc⟩) (fun w ew => ⟨hR w ew, nd⟩) grp_stab
  · have : c ≠ a := fun z => by subst z; rw [(hF c ha).2.1] at ec; cases ec
    rw [upd_ne this]; exact S.hist.bh.sm _ _ ec
  · have : c ≠ a := fun z => nc (z ▸ ha)
    rw [upd_ne this]; exact ⟨oc, ec, fun _ => rfl⟩
  · by_cases h : c = a
    · subst h; rw [upd_same]; exact fun z => nomatch z
    · rw [upd_ne h]; exact (hF c mc).1
/-- xs[k].append(e) -/
theorem wp_llApp {k : Int} {j : Nat} (e : δ[i]? = some (grp K (.ll dss) F)) (hb : ED K tb δ (.int k)) (hj : ixN dss.length k = some j) (hk : dss[j]? = some ds) (h : ED K te δ d) (hz : ds.length < sizeLine)
    (q : E.nx (δ.set i (grp K (.ll (dss.set j (ds ++ [d]))) F))) : WP K (tDrop (tBM K "list" rAppend (tOp (rIx K) (tVar i) tb) (tCons te tNil))) E δ := fun B0 H0 B H σ D L S => by
  obtain ⟨v, a1, ⟨a, bs, rfl, rfl, ha, lr⟩, nd, hF⟩ := S.grp e
  refine ⟨_, a1, hb B0 H0 B H σ _ S fun w B2 H2 s2 y => ?_⟩
  cases Dq.int_inv y
  have S2 := S.step s2
  obtain ⟨v2, a2, ⟨a', bs', z1, z2, ha2, lr2⟩, nd2, hF2⟩ := S2.grp e
  rw [a1] at a2; cases a2
  cases z1; cases z2
  obtain ⟨b, us, eb, hb1, db, put⟩ := lr2.get (List.nodup_cons.mp nd2).2 hk
  have e1 : atI (bs.map V.ref) k = some (.ref b) := by
    unfold atI
    rw [List.length_map, lr2.len, hj]
    show (bs.map V.ref)[j]? = _
    rw [List.getElem?_map, eb]; rfl
  refine .inl ⟨a, bs.map V.ref, k, .ref b, rfl, rfl, .inl (.inl ha2), e1, .inl ⟨rfl, us, .inl (.inl hb1)⟩, h B0 H0 B2 H2 σ _ S2 fun v B3 H3 s3 dv => ?_⟩
  have S3 := S2.step s3
  obtain ⟨v3, a3, ⟨a', bs', z1, z2, ha3, lr3⟩, nd3, hF3⟩ := S3.grp e
  rw [a1] at a3; cases a3
  cases z1; cases z2
  obtain ⟨b', us', eb', hb3, db3, put3⟩ := lr3.get (List.nodup_cons.mp nd3).2 hk
  rw [eb] at eb'; cases eb'
  have mb : b ∈ bs := List.mem_of_getElem? eb
  have nab : a ≠ b := fun z => (List.nodup_cons.mp nd).1 (z ▸ mb)
  refine ⟨b, us', v, rfl, rfl, hb3, by rw [db3.len]; exact hz, L.nx _ _ B3 _ (S3.grpUpd e (List.mem_cons_of_mem _ mb) (fun _ z => nomatch z) fun w ew => ?_) q⟩
  rw [a1] at ew; cases ew
  exact ⟨a, bs, rfl, rfl, by rw [upd_ne nab]; exact ha3, put3 _ _ (db3.app (.cons dv .nil))⟩
theorem Sd.frzGrp (S : Sd K B0 H0 B H σ δ) (e : δ[i]? = some (DX.grp K x F)) : Sam B (frzB F B H) ∧ Sd K B0 H0 (frzB F B H) H σ (δ.set i (.val (knD x))) := by
  obtain ⟨v, a1, r, nd, hF⟩ := S.grp e
  have bG : ∀ a ∈ F, B a = none := fun a ma => (hF a ma).2.1
  have k1 : Sam B (frzB F B H) := fun a o ea => by
    have na : a ∉ F := fun z => by rw [bG a z] at ea; cases ea
    exact ⟨o, (if_neg na).trans ea, fun _ => rfl⟩
  have k2 : Sam (frzB F B H) H := fun a o ea => by
    have ea : (if a ∈ F then H a else B a) = some o := ea
    by_cases z : a ∈ F
    · rw [if_pos z] at ea; exact ⟨o, ea, fun _ => rfl⟩
    · rw [if_neg z] at ea; exact S.hist.bh.sm _ _ ea
  refine ⟨k1, ⟨S.hist.bb.trans k1, ⟨k2, S.hist.bh.tb⟩, S.hist.hh, fun a q z => ?_⟩, by rw [List.length_set]; exact S.len, fun j t ej => ?_, S.apart.less e fun o eo a ma => by cases ma⟩
  · have na : a ∉ F := fun m => q (hF a m).2.2
    exact (if_neg na).trans (S.hist.fr a q z)
  · rcases get_set ej with ⟨rfl, rfl⟩ | ⟨hne, ej⟩
    · exact ⟨_, a1, v, rfl, r.kn k1 fun a ma => if_pos ma⟩
    · obtain ⟨o, eo, ok⟩ := S.ok j t ej
      have aw : ∀ a ∈ foot t o, a ∉ F := fun a ma mg => S.apart j i _ _ _ _ (Ne.symm hne) ej e eo a1 a ma mg
      refine ⟨o, eo, ?_⟩
      cases t with
      | no => exact True.intro
      | val d => obtain ⟨v, e1, q⟩ := ok; exact ⟨v, e1, Dq.up k1 _ _ q⟩
      | ob C' fs' =>
        obtain ⟨pp, dx', ws', rfl, hp', hn', hf'⟩ := ok
        exact ⟨pp, dx', ws', rfl, hp', hn', hf'.up k1⟩
      | own xo =>
        obtain ⟨pp, u, rfl, hp', bp, h0, q⟩ := ok
        exact ⟨pp, u, rfl, hp', (if_neg (aw pp (List.mem_singleton.mpr rfl))).trans bp, h0, q.up k1⟩
      | big R2 F2 =>
        obtain ⟨v, rfl, r, st2, ha⟩ := ok
        refine ⟨v, rfl, st2 B H _ H v r (fun w d => Dq.up k1 d w) (fun a ma o eo nt => eo), st2, fun a ma => ?_⟩
        obtain ⟨h1, h2, h3⟩ := ha a ma
        exact ⟨h1, (if_neg (aw a ma)).trans h2, h3⟩
theorem wp_freezeG (i : Nat) (e : δ[i]? = some (grp K x F)) (h : WP K t E (δ.set i (.val (knD x)))) : WP K t E δ := fun B0 H0 B H σ D L S => h B0 H0 _ H σ D L (S.frzGrp e).2
end
end DX

namespace DX
open PySem L2
variable [TabEnv]
section
variable {K : PySem.W.Frag} {δ : List SV} {ta tb te : TE} {d : D} {ds : List D} {i : Nat} {E : EndsD}
theorem ed_din {ms : List (Int × D)} {k : Int} (hk : ED K tb δ (.int k)) (h : ED K ta δ (.dict (kvD ms))) : ED K (tDIn tb ta) δ (.bool (kget k ms).isSome) := fun B0 H0 B H σ Q S q =>
  hk B0 H0 B H σ _ S fun w B1 H1 s1 b => h B0 H0 B1 H1 σ _ (S.step s1) fun v B2 H2 s2 dv => by
    cases Dq.int_inv b
    cases dv with
    | @dct a kvs _ hr dk =>
      obtain ⟨g1, g2⟩ := dqkv_get (k := k) dk
      refine ⟨a, valV kvs (Sum.inl k), rfl, .inl ⟨kvs, Sum.inl k, rd_up s2.bh hr, rfl, rfl⟩, ?_⟩
      · cases e : kget k ms with
        | none => rw [g2 e]; rw [e] at q; exact q _ B2 H2 (s1.trans s2) (.bl _)
        | some d =>
          obtain ⟨v, ev, _⟩ := g1 d e
          rw [ev]; rw [e] at q; exact q _ B2 H2 (s1.trans s2) (.bl _)
end
end DX

namespace DX
open PySem L2 PySem.Spec PyProof.Rows
variable [TabEnv]
/-! ### sets of a list or a tuple of ints; how many tuples a list has -/
def rSetA (K : PySem.W.Frag) (w : World) : List V → Hp → VK → Prop := fun xs H Q => ∃ (p : Addr) (ns : List Int), xs = [.ref p] ∧ (SqL K H p (ns.map V.int) ∨ SqT K H p (ns.map V.int)) ∧ ns.length ≤ 1000 ∧ ∀ a c, H a = none → c ≤ ns.length → Q (.ref a) (upd H a (SetO w a (fun j => decide (j ∈ ns)) c))
theorem kx_setA {X : Cx} {K : PySem.W.Frag} {w : World} (hK : X.K = K := by rfl) (hw : X.w = w := by rfl) (hc : X.calm = true := by rfl) : CallR X (.type "set") (rSetA K w) := by
  subst hK; subst hw
  intro pins s σ H xs us Q I r h
  obtain ⟨p, ns, rfl, hq, hl, q⟩ := h
  rcases hq with hq | hq
  · exact cr_setL hc rfl pins s σ H _ us Q I r ⟨p, ns, rfl, hq, hl, q⟩
  · cases r with
    | cons r rr =>
      cases rr
      cases r
      obtain ⟨its, rv, pt, hz⟩ := I.tuple hq
      have hi : IntsAre its.toArray.toList ns := ints_of_vals rv
      refine call_set_tupI ns (I.ok.hd hc) (show s.heap.IsTuple p its.toArray from pt) hi (by unfold scanBound; omega) fun h' tk c R1 hcn k => ?_
      exact ⟨.ref _, upd H s.heap.objs.size _, I.laid (t' := tk) k (Nat.le_refl _) (setO_new R1), rfl, q _ _ (I.hok.fresh (Nat.le_refl _)) hcn⟩
theorem kx_setOfT {X : Cx} {K : PySem.W.Frag} {P : Program} {w : World} (hu : X.A.units + 64 < cLine) (hK : X.K = K := by rfl) (hP : X.prog = P := by rfl) (hw : X.w = w := by rfl) (hc : X.calm = true := by rfl) : CallR X (.type "set") (rSetOfT K P w) := by
  subst hK; subst hP; subst hw; exact cr_setOfT hc hu
def rLenST (K : PySem.W.Frag) (P : Program) (w : World) : List V → Hp → VK → Prop := fun xs H Q => ∃ a L, xs = [.ref a] ∧ H a = some (SetTO P w a L) ∧ (∀ p ∈ L, SqT K H p.1 (p.2.map V.int)) ∧ ((L.map (·.2)).Nodup → Q (.int (L.length : Nat)) H)
theorem kx_lenST {X : Cx} {K : PySem.W.Frag} {P : Program} {w : World} (hK : X.K = K := by rfl) (hP : X.prog = P := by rfl) (hw : X.w = w := by rfl) : CallR X (.builtin "len") (rLenST K P w) := by
  subst hK; subst hP; subst hw
  intro pins s σ H xs us Q I r h
  obtain ⟨a, L, rfl, ha, hk, q⟩ := h
  rw [Vals.ref1 r]
  have R0 : SetT0 X.prog X.w s.heap a L := (I.hok a _ ha).1
  obtain ⟨es, ep, t, R⟩ := R0.full fun p hp => I.isT (hk p hp)
  obtain ⟨o, ho, hex, hd⟩ := R.ob
  have hlen := R.size
  have hfew := R.few
  exact call_len_set ho hex hd R.fits (by rw [hlen]; omega) ⟨.int L.length, H, I.tok _, ⟨_, by rw [hlen]⟩, q R.nd⟩
/-! ### each item once -/
def ddL {α : Type} [DecidableEq α] : List α → List α
  | [] => []
  | x :: l => if x ∈ l then ddL l else x :: ddL l
theorem ddL_mem {α : Type} [DecidableEq α] {x : α} : ∀ {l : List α}, x ∈ ddL l ↔ x ∈ l
  | [] => Iff.rfl
  | y :: l => by
    unfold ddL
    have ih := ddL_mem (x := x) (l := l)
    split
    · rename_i h
      rw [ih, List.mem_cons]
      exact ⟨.inr, fun z => z.elim (fun e => e ▸ h) id⟩
    · rw [List.mem_cons, List.mem_cons, ih]
theorem ddL_nodup {α : Type} [DecidableEq α] : ∀ {l : List α}, (ddL l).Nodup
  | [] => .nil
  | y :: l => by
    unfold ddL
    split
    · exact ddL_nodup
    · rename_i h
      exact List.nodup_cons.mpr ⟨fun z => h (ddL_mem.mp z), ddL_nodup⟩
theorem ddL_le {α : Type} [DecidableEq α] : ∀ {l : List α}, (ddL l).length ≤ l.length
  | [] => Nat.le_refl _
  | y :: l => by
    unfold ddL
    have := ddL_le (l := l)
    split
    · rw [List.length_cons]; omega
    · rw [List.length_cons, List.length_cons]; omega
theorem ddL_len {α : Type} [DecidableEq α] : ∀ {l : List α}, (ddL l).length = l.length ↔ l.Nodup
  | [] => ⟨fun _ => .nil, fun _ => rfl⟩
  | y :: l => by
    unfold ddL
    have ih := ddL_len (l := l)
    have le := ddL_le (l := l)
    split
    · rename_i h
      refine ⟨fun z => ?_, fun z => absurd h (List.nodup_cons.mp z).1⟩
      rw [List.length_cons] at z
      omega
    · rename_i h
      rw [List.length_cons, List.length_cons, List.nodup_cons]
      exact ⟨fun z => ⟨h, ih.mp (by omega)⟩, fun z => by rw [ih.mpr z.2]⟩
theorem nodup_le {α : Type} [DecidableEq α] : ∀ {a b : List α}, a.Nodup → (∀ x ∈ a, x ∈ b) → a.length ≤ b.length
  | [], _, _, _ => Nat.zero_le _
  | x :: a, b, nd, h => by
    obtain ⟨n1, n2⟩ := List.nodup_cons.mp nd
    have hx := h x (List.mem_cons_self ..)
    have := nodup_le (a := a) (b := b.erase x) n2 fun y hy => (List.mem_erase_of_ne (fun e : y = x => n1 (e ▸ hy))).mpr (h y (List.mem_cons_of_mem _ hy))
    rw [List.length_erase_of_mem hx] at this
    have : 0 < b.length := List.length_pos_of_mem hx
    rw [List.length_cons]
    omega
theorem ddL_uni {α : Type} [DecidableEq α] {a b : List α} (nd : a.Nodup) (h : ∀ x, x ∈ a ↔ x ∈ b) : a.length = (ddL b).length :=
  Nat.le_antisymm (nodup_le nd fun x hx => ddL_mem.mpr ((h x).mp hx)) (nodup_le ddL_nodup fun x hx => (h x).mpr (ddL_mem.mp hx))
def tupI (ys : List Int) : D := .tuple (ys.map PyData.int)
section
variable {K : PySem.W.Frag} {P : Program} {w : World} {B0 H0 B H B' H' : Hp} {σ : L2.St} {δ δ' : List SV} {ta tb te : TE} {tt : TT} {d x y : D} {ds es : List D} {E : EndsD} {i : Nat}
theorem tups_of : ∀ {yss : List (List Int)} {vs : List V}, DqAll K H vs (yss.map tupI) → ∃ ks : List (Addr × List Int), vs = ks.map (fun p => V.ref p.1) ∧ ks.map (·.2) = yss ∧ ∀ p ∈ ks, SqT K H p.1 (p.2.map V.int)
  | [], _, h => by cases h; exact ⟨[], rfl, rfl, fun p hp => by cases hp⟩
  | ys :: yss, _, h => by
    cases h with
    | cons h1 h2 =>
      obtain ⟨ks, e1, e2, e3⟩ := tups_of h2
      cases h1 with
      | @tup a vs _ hs hA =>
        cases hA.ints
        exact ⟨(a, ys) :: ks, by rw [e1]; rfl, by rw [List.map_cons, e2], fun p hp => (List.mem_cons.mp hp).elim (fun z => by rw [z]; exact hs) (e3 p)⟩
/-- len(set(xs)) of a list of tuples of ints -/
theorem ed_lenSetT {yss : List (List Int)} (h : ED K te δ (.list (yss.map tupI))) (hl : yss.length < 64) : ED K (tCB (rLenST K P w) (tCons (tCB (rSetOfT K P w) (tCons te tNil)) tNil)) δ (.int ((ddL yss).length : Nat)) := fun B0 H0 B H σ Q S q =>
  h B0 H0 B H σ _ S fun v B1 H1 s1 a => by
    cases a with
    | @lst p vs _ hs hA =>
      obtain ⟨ks, rfl, e2, e3⟩ := tups_of hA
      refine ⟨p, ks, rfl, s1.bh.seq hs, fun p mp => sqT_up s1.bh (e3 p mp), by rw [← e2, List.length_map] at hl; exact hl, fun z L hz h1 h2 => ?_⟩
      have s2 : Stp B1 H1 B1 (upd H1 z (SetTO P w z L)) := .newOwn s1.bh hz
      refine ⟨z, L, rfl, upd_same, fun p mp => sqT_up s2.hh (sqT_up s1.bh (e3 p (h1 p mp))), fun nd => ?_⟩
      have e : L.length = (ddL yss).length := by
        have := ddL_uni (b := yss) nd fun x => ⟨fun m => ?_, fun m => ?_⟩
        · rwa [List.length_map] at this
        · obtain ⟨p, mp, rfl⟩ := List.mem_map.mp m
          rw [← e2]
          exact List.mem_map.mpr ⟨p, h1 p mp, rfl⟩
        · rw [← e2] at m
          obtain ⟨p, mp, rfl⟩ := List.mem_map.mp m
          exact h2 p mp
      rw [e]
      exact q _ B1 _ (s1.trans s2) (.int _)
/-- sorted(set(xs)) of a list or a tuple of ints -/
theorem ep_sortedSetA {ns : List Int} (h : ED K te δ x) (hx : itemsD x = some (ns.map PyData.int)) (hl : ns.length ≤ 60) :
    EP K (tCB (rSortedSet w) (tCons (tCB (rSetA K w) (tCons te tNil)) tNil)) δ (fun d => ∃ ms : List Int, d = .list (ms.map PyData.int) ∧ ms.Pairwise (· < ·) ∧ (∀ k, k ∈ ms ↔ k ∈ ns) ∧ ms.length ≤ ns.length) := fun B0 H0 B H σ Q S q =>
  h B0 H0 B H σ _ S fun v B1 H1 s1 a => by
    have hq : ∃ p, v = .ref p ∧ (SqL K H1 p (ns.map V.int) ∨ SqT K H1 p (ns.map V.int)) := by
      cases a with
      | lst hs hA => cases hx; cases hA.ints; exact ⟨_, rfl, .inl (s1.bh.seq hs)⟩
      | tup hs hA => cases hx; cases hA.ints; exact ⟨_, rfl, .inr (sqT_up s1.bh hs)⟩
      | _ => cases hx
    obtain ⟨p, rfl, hq⟩ := hq
    refine ⟨_, ns, rfl, hq, by omega, fun z c hz hc => ⟨z, _, c, rfl, upd_same, by omega, fun ms p hp hm hlen np => ?_⟩⟩
    have s2 : Stp B1 H1 B1 (upd H1 z (SetO w z (fun j => decide (j ∈ ns)) c)) := .newOwn s1.bh hz
    refine q _ (upd B1 p (.lst (ms.map V.int))) _ _ ((s1.trans s2).trans (.new s2.bh np)) (.lst (.inl (.inl upd_same)) DqAll.ofInts) ⟨ms, rfl, hp, fun k => ?_, by omega⟩
    rw [hm k, decide_eq_true_eq]
/-! ### readings with effects -/
theorem ex_orV {a : Bool} {P : D → List SV → Prop} (h1 : ED K ta δ (.bool a)) (h2 : a = false → EX K tb δ P) (h3 : a = true → P (.bool true) δ) : EX K (tOrV ta tb) δ P := fun B0 H0 B H σ Q S q => h1 B0 H0 B H σ _ S fun v B1 H1 s1 c => by
  cases Dq.bool_inv c
  refine ⟨a, rfl, ?_⟩
  cases a with
  | true => exact iteT (q _ B1 H1 _ δ (S.step s1) (.bl true) (h3 rfl))
  | false => exact iteF (h2 rfl B0 H0 B1 H1 σ _ (S.step s1) q)
theorem ex_notV {P R : D → List SV → Prop} (h : EX K ta δ P) (u : ∀ d δ', P d δ' → ∃ b, d = .bool b ∧ R (.bool (!b)) δ') : EX K (tNotV ta) δ R := fun B0 H0 B H σ Q S q => h B0 H0 B H σ _ S fun v B1 H1 d δ1 S1 c pd => by
  obtain ⟨b, rfl, r⟩ := u d δ1 pd
  cases Dq.bool_inv c
  exact ⟨b, rfl, q _ B1 H1 _ δ1 S1 (.bl _) r⟩
theorem wp_retX {t : TE} {P : D → List SV → Prop} (h : EX K t δ P) (q : ∀ d δ', P d δ' → E.rt d) : WP K (tRet t) E δ := fun B0 H0 B H σ D L S => h B0 H0 B H σ _ S fun v B1 H1 d δ1 S1 a pd => L.rt v B1 H1 d S1.hist a (q d δ1 pd)
/-- a new list out of readings that may change an object -/
def EXN (K : PySem.W.Frag) (te : TE) (I : List SV → Prop) (ds : List D) : Prop := ∀ (B0 H0 B H : Hp) (σ : L2.St) (Q : VK) (δ : List SV), I δ → Sd K B0 H0 B H σ δ →
  (∀ p vs B' H' δ', I δ' → Sd K B0 H0 B' H' σ δ' → B' p = none → H0 p = none → (∀ (j : Nat) (t : SV) (q : Option V), δ'[j]? = some t → σ[j]? = some q → p ∉ foot t q) → H' p = some (.lst vs) → DqAll K B' vs ds → Q (.ref p) H') → te σ H Q
theorem Sd.outH {L : Addr} {u : HO} (S : Sd K B0 (upd H0 L u) B H σ δ) (n : H0 L = none) : Sd K B0 H0 B H σ δ := by
  refine ⟨⟨S.hist.bb, S.hist.bh, fun a o ea => ?_, fun a q z => ?_⟩, S.len, fun j s ej => ?_, S.apart⟩
  · have : a ≠ L := fun z => by subst z; rw [n] at ea; cases ea
    exact S.hist.hh a o (by rw [upd_ne this]; exact ea)
  · have : a ≠ L := fun e => q (e ▸ n)
    exact S.hist.fr a (by rw [upd_ne this]; exact q) z
  · obtain ⟨o, eo, ok⟩ := S.ok j s ej
    have key : ∀ a, upd H0 L u a = none → H0 a = none := fun a e => by
      by_cases z : a = L
      · rw [z]; exact n
      · rwa [upd_ne z] at e
    refine ⟨o, eo, ?_⟩
    cases s with
    | no => exact True.intro
    | val d => exact ok
    | ob C fs => exact ok
    | own xo =>
      obtain ⟨pp, us, e, h1, h2, h3, h4⟩ := ok
      exact ⟨pp, us, e, h1, h2, key _ h3, h4⟩
    | big R F =>
      obtain ⟨v, e, r, st, ha⟩ := ok
      exact ⟨v, e, r, st, fun a ma => ⟨(ha a ma).1, (ha a ma).2.1, key _ (ha a ma).2.2⟩⟩
theorem wipeD_get : ∀ (vs : List Nat) (j : Nat) (s : SV), (wipeD δ vs)[j]? = some s → (j ∈ vs ∧ s = .no ∧ j < δ.length) ∨ (j ∉ vs ∧ δ[j]? = some s)
  | [], j, s, h => .inr ⟨List.not_mem_nil, h⟩
  | v :: vs, j, s, h => by
    have h : ((wipeD δ vs).set v .no)[j]? = some s := h
    rcases get_set h with ⟨rfl, rfl⟩ | ⟨n, h⟩
    · refine .inl ⟨List.mem_cons_self .., rfl, ?_⟩
      have := (List.getElem?_eq_some_iff.mp h).1
      rw [List.length_set] at this
      have len : ∀ us : List Nat, (wipeD δ us).length = δ.length := fun us => by
        induction us with
        | nil => rfl
        | cons u us ih =>
          show ((wipeD δ us).set u .no).length = _
          rw [List.length_set, ih]
      rwa [len] at this
    · rcases wipeD_get vs j s h with ⟨a, b, c⟩ | ⟨a, b⟩
      · exact .inl ⟨List.mem_cons_of_mem _ a, b, c⟩
      · exact .inr ⟨fun z => (List.mem_cons.mp z).elim (fun e => n e.symm) a, b⟩
theorem wipeD_len : ∀ us : List Nat, (wipeD δ us).length = δ.length
  | [] => rfl
  | u :: us => by
    show ((wipeD δ us).set u .no).length = _
    rw [List.length_set, wipeD_len us]
/-- the same but for names that are forgotten -/
theorem Sd.swap {σ' : L2.St} {vs : List Nat} (S : Sd K B0 H0 B H σ' δ) (e : L2.wipe σ' vs = L2.wipe σ vs) : Sd K B0 H0 B H σ (wipeD δ vs) := by
  have hlen : σ.length = δ.length := by
    have := congrArg List.length e
    rw [wipe_length, wipe_length] at this
    rw [← this]; exact S.len
  have same : ∀ j, j ∉ vs → σ[j]? = σ'[j]? := fun j hj => by
    have := congrArg (fun (l : L2.St) => l[j]?) e
    rw [wipe_get, wipe_get, if_neg hj, if_neg hj] at this
    exact this.symm
  refine ⟨S.hist, by rw [wipeD_len]; exact hlen, fun j s ej => ?_, fun j k s t o q n e1 e2 e3 e4 a ma mb => ?_⟩
  · rcases wipeD_get vs j s ej with ⟨_, rfl, hj⟩ | ⟨hn, ej⟩
    · exact ⟨_, List.getElem?_eq_getElem (show j < σ.length by rw [hlen]; exact hj), True.intro⟩
    · obtain ⟨o, eo, ok⟩ := S.ok j s ej
      exact ⟨o, (same j hn).trans eo, ok⟩
  · rcases wipeD_get vs j s e1 with ⟨_, rfl, _⟩ | ⟨h1, e1⟩
    · cases ma
    · rcases wipeD_get vs k t e2 with ⟨_, rfl, _⟩ | ⟨h2, e2⟩
      · cases mb
      · exact S.apart j k s t o q n e1 e2 ((same j h1).symm.trans e3) ((same k h2).symm.trans e4) a ma mb
theorem exn_lc {α : Type} {I : List SV → Prop} {xs : List α} {gd : α → D} {wi : TI} {g : TG} {vs : List Nat} {f : α → D} {af : List SV → α → List SV} (hw : ∀ δ, I δ → EI K wi δ (xs.map gd)) (hl : xs.length < sizeLine)
    (hI : ∀ δ, I δ → wipeD δ vs = δ) (hg : ∀ δ x, I δ → x ∈ xs → GW K g vs δ (gd x) (af δ x)) (he : ∀ δ x, I δ → x ∈ xs → EX K te (af δ x) (fun d δ' => d = f x ∧ I (wipeD δ' vs))) : EXN K (tLc wi g tYes te vs) I (xs.map f) := fun B0 H0 B H σ Q δ iδ S q =>
  hw δ iδ B0 H0 B H σ _ S fun J B1 H1 s1 yd L nL => by
    have S1 := S.step s1
    have hfoot := new_foot (S := S1) nL
    have h0L := S1.hist.hh.free nL
    refine ⟨fun k m H' => m = xs.length - k ∧ k ≤ xs.length ∧ ∃ B' acc δ', I δ' ∧ Sd K B1 (upd H0 L (.lst acc)) B' H' σ δ' ∧ B' L = none ∧ H' L = some (.lst acc) ∧ DqAll K B' acc ((xs.take k).map f), ⟨_, rfl, Nat.zero_le _, B1, [], δ, iδ, ?_, s1.bh.free nL, upd_same, ?_⟩, ?_⟩
    · have := (S1.past S1.hist.bb (Sam.refl _)).step (.newOwn (o := .lst []) s1.bh nL)
      exact this.inL upd_same (s1.bh.free nL) hfoot
    · rw [List.take_zero]; exact .nil
    rintro k m H' ⟨rfl, hk, B', acc, δ', iδ', S', bL, hL, hA⟩
    obtain ⟨y1, y2⟩ := yd B' H' k S'.hist.bb S'.hist.bh
    by_cases hlt : k < xs.length
    · obtain ⟨go, yy⟩ := y1 (by rw [List.length_map]; exact hlt)
      refine .inr ⟨go, fun H'' => ∃ B'' acc δ'', I δ'' ∧ Sd K B1 (upd H0 L (.lst acc)) B'' H'' σ δ'' ∧ B'' L = none ∧ H'' L = some (.lst acc) ∧ DqAll K B'' acc ((xs.take (k + 1)).map f), fun H'' z => ⟨xs.length - (k + 1), by omega, rfl, hlt, z⟩, fun x H2 yl => ?_⟩
      obtain ⟨B2, d', s2, ed', dp⟩ := yy x H2 yl
      have ed : xs[k]? = some xs[k] := List.getElem?_eq_getElem hlt
      have eg : d' = gd xs[k] := by
        rw [List.getElem?_map, ed] at ed'
        exact (Option.some.inj ed').symm
      subst eg
      have hm : xs[k] ∈ xs := List.getElem_mem hlt
      have S2 := S'.step s2
      have hL2 : H2 L = some (.lst acc) := s2.hh.at hL
      have bL2 : B2 L = none := s2.fr L (by rw [hL]; exact fun z => nomatch z) bL
      have hA2 := DqAll.up s2.bb _ _ hA
      have S2p : Sd K B2 (upd H0 L (.lst acc)) B2 H2 σ δ' := S2.past S2.hist.bb (Sam.refl _)
      have S2w := S2p.wipe vs
      rw [hI δ' iδ'] at S2w
      refine hg δ' xs[k] iδ' hm B2 (upd H0 L (.lst acc)) B2 H2 _ _ _ S2w dp fun σ3 S3 ew => ⟨ew.trans wipe_wipe, tyes_true ?_⟩
      refine iteT (he δ' xs[k] iδ' hm B2 (upd H0 L (.lst acc)) B2 H2 σ3 _ S3 fun v B4 H4 d4 δ4 S4 dv ⟨e4, i4⟩ => ?_)
      subst e4
      have hL4 : H4 L = some (.lst acc) := S4.hist.hh.at upd_same
      have bL4 : B4 L = none := S4.hist.fr L (by rw [upd_same]; exact fun z => nomatch z) bL2
      have hA4 := DqAll.up S4.hist.bb _ _ hA2
      have S5 : Sd K B2 (upd H0 L (.lst acc)) B4 H4 σ (wipeD δ4 vs) := S4.swap (ew.trans wipe_wipe)
      have S6 : Sd K B1 (upd H0 L (.lst acc)) B4 H4 σ (wipeD δ4 vs) := S5.back S2.hist
      have S7 := S6.setL (ws := acc ++ [v]) upd_same hL4 bL4
      rw [show upd (upd H0 L (.lst acc)) L (.lst (acc ++ [v])) = upd H0 L (.lst (acc ++ [v])) from by
        funext a
        by_cases h : a = L
        · subst h; rw [upd_same, upd_same]
        · rw [upd_ne h, upd_ne h, upd_ne h]] at S7
      refine ⟨acc, hL4, ?_, B4, acc ++ [v], wipeD δ4 vs, i4, S7, bL4, upd_same, ?_⟩
      · rw [hA4.len, List.length_map, List.length_take]; omega
      · rw [List.take_add_one, ed, List.map_append]
        exact hA4.app (.cons dv .nil)
    · have e : k = xs.length := by omega
      subst e
      rw [List.take_length] at hA
      have hf2 := S'.outL (by rw [upd_same]; exact fun z => nomatch z) hL
      exact .inl ⟨y2 (by rw [List.length_map]), q L acc B' H' δ' iδ' ((S'.outH h0L).back S1.hist) bL h0L hf2 hL hA⟩
theorem Sd.knowL {p : Addr} {vs : List V} (S : Sd K B0 H0 B H σ δ) (bp : B p = none) (h0 : H0 p = none) (hf : ∀ (j : Nat) (t : SV) (q : Option V), δ[j]? = some t → σ[j]? = some q → p ∉ foot t q) (hp : H p = some (.lst vs)) : Sd K B0 H0 (upd B p (.lst vs)) H σ δ ∧ Sam B (upd B p (.lst vs)) := by
  obtain ⟨k1, k2⟩ := Stp.know (o := .lst vs) S.hist.bh bp hp
  refine ⟨⟨⟨S.hist.bb.trans k1, k2, S.hist.hh, fun a q z => ?_⟩, S.len, fun j s ej => ?_, S.apart⟩, k1⟩
  · have : a ≠ p := fun e => by subst e; exact q h0
    rw [upd_ne this]; exact S.hist.fr a q z
  · obtain ⟨o, eo, ok⟩ := S.ok j s ej
    have aw := hf j s o ej eo
    refine ⟨o, eo, ?_⟩
    cases s with
    | no => exact True.intro
    | val d => obtain ⟨v, e1, e2⟩ := ok; exact ⟨v, e1, Dq.up k1 _ _ e2⟩
    | ob C fs => obtain ⟨pp, dx, ws, e1, e2, e3, e4⟩ := ok; exact ⟨pp, dx, ws, e1, e2, e3, e4.up k1⟩
    | own es =>
      obtain ⟨pp, ws, e1, e2, e3, e4, e5⟩ := ok
      have hne2 : pp ≠ p := fun z => by
        subst z; subst e1
        exact aw (List.mem_singleton.mpr rfl)
      exact ⟨pp, ws, e1, e2, by rw [upd_ne hne2]; exact e3, e4, e5.up k1⟩
    | big R F => exact big_step ok aw k1 (fun a z => upd_ne z) (fun _ _ => rfl)
theorem EXN.ex {I : List SV → Prop} (h : EXN K te I ds) (i0 : I δ) : EX K te δ (fun d δ' => d = .list ds ∧ I δ') := fun B0 H0 B H σ Q S q => h B0 H0 B H σ Q δ i0 S fun p vs B' H' δ' i' S' bp h0 hf hp hA => by
  obtain ⟨S2, k1⟩ := S'.knowL bp h0 hf hp
  exact q (.ref p) _ H' _ δ' S2 (.lst (.inl (.inl upd_same)) (DqAll.up k1 _ _ hA)) ⟨rfl, i'⟩
end
end DX

namespace DX
open PySem L2
variable [TabEnv]
theorem atI_last {α : Type} {xs : List α} {x : α} : atI (xs ++ [x]) (-1) = some x := by
  unfold atI ixN
  rw [if_neg (by decide), List.length_append, if_pos (by show -(((xs.length + 1 : Nat)) : Int) ≤ -1; omega)]
  show (xs ++ [x])[(-1 + ((xs.length + 1 : Nat) : Int)).toNat]? = some x
  rw [show (-1 + ((xs.length + 1 : Nat) : Int)).toNat = xs.length by omega, List.getElem?_append_right (Nat.le_refl _), Nat.sub_self]
  rfl
theorem eqvAll_ints : ∀ (a b : List Int), PyData.eqvAll (a.map PyData.int) (b.map PyData.int) = decide (a = b)
  | [], [] => by simp only [List.map_nil, PyData.eqvAll]; rfl
  | [], y :: b => by simp only [List.map_nil, List.map_cons, PyData.eqvAll]; rfl
  | x :: a, [] => by simp only [List.map_nil, List.map_cons, PyData.eqvAll]; rfl
  | x :: a, y :: b => by
    have ih := eqvAll_ints a b
    simp only [List.map_cons, PyData.eqvAll]
    rw [ih, Bool.eq_iff_iff, Bool.and_eq_true, decide_eq_true_iff, decide_eq_true_iff, List.cons.injEq]
    simp only [PyData.eqv]
    rw [beq_iff_eq]
theorem eqv_listI (a b : List Int) : PyData.eqv (.list (a.map PyData.int)) (.list (b.map PyData.int)) = decide (a = b) := by
  simp only [PyData.eqv]
  exact eqvAll_ints a b
theorem eqv_tupI (a b : List Int) : PyData.eqv (tupI a) (tupI b) = decide (a = b) := by
  unfold tupI
  simp only [PyData.eqv]
  exact eqvAll_ints a b
theorem any_tupI (l : List (List Int)) (a : List Int) : ((l.map tupI).any fun z => PyData.eqv z (tupI a)) = decide (a ∈ l) := by
  induction l with
  | nil => rfl
  | cons x l ih =>
    rw [List.map_cons, List.any_cons, ih, eqv_tupI, Bool.eq_iff_iff, Bool.or_eq_true, decide_eq_true_iff, decide_eq_true_iff, decide_eq_true_iff, List.mem_cons]
    exact ⟨fun h => h.elim (fun z => .inl z.symm) .inr, fun h => h.elim (fun z => .inl z.symm) .inr⟩
theorem shp_tupI {n : Nat} {a : List Int} : Shp (n + 1) (tupI a) := shp_tints
theorem shp_tupIs {n : Nat} {l : List (List Int)} : Shp (n + 1 + 1) (.list (l.map tupI)) := shp_list (shp_map fun _ => shp_tupI)
/-! ### ascending, each once -/
def asd (ys : List Int) : List Int := asc (ddL ys)
theorem asd_pw {ys : List Int} : (asd ys).Pairwise (· < ·) := by
  have h1 := asc_pw (ddL ys)
  have h2 : (asc (ddL ys)).Nodup := (asc_perm _).nodup_iff.mpr ddL_nodup
  exact (List.Pairwise.and h1 h2).imp fun h => by omega
theorem asd_mem {ys : List Int} {k : Int} : k ∈ asd ys ↔ k ∈ ys := by
  unfold asd
  rw [(asc_perm _).mem_iff, ddL_mem]
theorem pw_uni {a b : List Int} (ha : a.Pairwise (· < ·)) (hb : b.Pairwise (· < ·)) (hm : ∀ k, k ∈ a ↔ k ∈ b) : a = b := by
  have nd : ∀ {l : List Int}, l.Pairwise (· < ·) → l.Nodup := fun h => h.imp fun h e => by omega
  exact asc_uni ((List.perm_ext_iff_of_nodup (nd ha) (nd hb)).mpr hm) (ha.imp fun h => by omega) (hb.imp fun h => by omega)
theorem asd_eq {ys : List Int} : ys = asd ys ↔ ys.Pairwise (· < ·) :=
  ⟨fun h => by rw [h]; exact asd_pw, fun h => pw_uni h asd_pw fun k => asd_mem.symm⟩
theorem asd_len {ys : List Int} : (asd ys).length ≤ ys.length := by
  unfold asd
  rw [(asc_perm _).length_eq]
  exact ddL_le
section
variable {K : PySem.W.Frag} {w : World} {δ : List SV} {te : TE} {x d : D}
theorem EPed {P : D → Prop} (h : EP K te δ P) (u : ∀ d', P d' → d' = d) : ED K te δ d := fun B0 H0 B H σ Q S q => h B0 H0 B H σ Q S fun v B' H' d' s a pd => q v B' H' s (u d' pd ▸ a)
theorem ed_sortedSetA {ns : List Int} (h : ED K te δ x) (hx : itemsD x = some (ns.map PyData.int)) (hl : ns.length ≤ 60) :
    ED K (tCB (rSortedSet w) (tCons (tCB (rSetA K w) (tCons te tNil)) tNil)) δ (.list ((asd ns).map PyData.int)) :=
  EPed (ep_sortedSetA h hx hl) fun d' ⟨ms, e, pw, mm, _⟩ => by rw [e, pw_uni pw asd_pw fun k => (mm k).trans asd_mem.symm]
theorem ed_tupRg {n : Int} (h : ED K te δ (.int n)) (h0 : 0 ≤ n) (hn : n ≤ 16777216) : ED K (tTupRg (tRg1 te)) δ (.tuple ((List.range n.toNat).map fun i => PyData.int (i : Nat))) := fun B0 H0 B H σ Q S q =>
  h B0 H0 B H σ _ S fun v B1 H1 s1 a => by
    cases Dq.int_inv a
    refine ⟨n, rfl, RgOk.of_le (by omega) hn (by omega) h0, fun p np => q (.ref p) (upd B1 p (.tup (rgV 0 n))) _ (s1.trans (.new s1.bh np)) (.tup (.inl (.inl upd_same)) ?_)⟩
    unfold rgV
    rw [Int.sub_zero]
    have : ∀ l : List Nat, DqAll K (upd B1 p (.tup ((List.range n.toNat).map fun i => V.int (0 + (i : Nat))))) (l.map fun i => V.int (0 + (i : Nat))) (l.map fun i => PyData.int (i : Nat)) := fun l => by
      induction l with
      | nil => exact .nil
      | cons i l ih => exact .cons (by show Dq K _ (V.int (0 + (i : Nat))) (.int (i : Nat)); rw [Int.zero_add]; exact .int _) ih
    exact this _
end
end DX

namespace L2
open PySem PySem.Spec PyProof.Rows HT
/-! ### t[::-1] of a tuple -/
section
variable {prog : Program} {w : World} {A : Around} {E : Value → Shared → Prop} {s : Shared}
theorem rev_places (n : Nat) : Builtin.Slice.slicePlaces ((n : Int) - 1) (-1) (-1) = n := by
  unfold Builtin.Slice.slicePlaces
  have h1 : ¬ ((-1 : Int) > 0) := by decide
  by_cases h : (n : Int) - 1 > -1
  · simp only [h1, if_false, h, if_true]
    rw [show (- -1 : Int) = 1 by decide, Int.ediv_one]
    omega
  · simp only [h1, if_false, h]
    omega
theorem fm_congr {α β : Type} {f g : α → Option β} : ∀ {l : List α}, (∀ k ∈ l, f k = g k) → l.filterMap f = l.filterMap g
  | [], _ => rfl
  | a :: l, h => by
    rw [List.filterMap_cons, List.filterMap_cons, h a (List.mem_cons_self ..), fm_congr fun k m => h k (List.mem_cons_of_mem _ m)]
theorem rev_pick (xs : Array Value) : ((List.range xs.size).filterMap fun (k : Nat) => xs[(((xs.size : Int) - 1) + (k : Int) * (-1)).toNat]?).toArray = xs.toList.reverse.toArray := by
  have e : ((List.range xs.size).filterMap fun (k : Nat) => xs[(((xs.size : Int) - 1) + (k : Int) * (-1)).toNat]?) = ((List.range xs.size).map fun k => xs.size - 1 - k).filterMap (xs[·]?) := by
    rw [List.filterMap_map]
    refine fm_congr fun k hk => ?_
    have := List.mem_range.mp hk
    show xs[(((xs.size : Int) - 1) + (k : Int) * (-1)).toNat]? = xs[xs.size - 1 - k]?
    have e2 : (((xs.size : Int) - 1) + (k : Int) * (-1)).toNat = xs.size - 1 - k := by omega
    rw [e2]
  rw [e, PySem.W.krv_range, List.filterMap_reverse, PySem.W.krv_all]
theorem sliceApplied_rev {sl : Addr} {vl vu vs : Value} {n : Nat} {Q : Int × Int × Nat → Shared → Prop} (hs : s.heap.IsSliceOf sl vl vu vs) (pl : IsPart vl none) (pu : IsPart vu none) (ps : IsPart vs (some (-1)))
    (h : Q ((n : Int) - 1, -1, n) s) : wpAny (model prog w) A (Builtin.Slice.sliceApplied (.ref sl) (pure (n : Int))) Q E s := by
  obtain ⟨os, hos, hcs, hds⟩ := id hs
  unfold Builtin.Slice.sliceApplied Builtin.Slice.sliceFields
  refine wpAny_bind (wpAny_bind (wpAny_field hos hds (x := vl) rfl (wpAny_bind (wpAny_field hos hds (x := vu) rfl (wpAny_bind (wpAny_field hos hds (x := vs) rfl (wpAny_pure ?_)))))))
  refine wpAny_bind (slicePart_ ps ?_)
  show wpAny _ _ (if ((-1 : Int) == 0) = true then _ else _) _ _ s
  rw [if_neg (by decide)]
  refine wpAny_bind (slicePart_ pl (wpAny_bind (slicePart_ pu (wpAny_bind (wpAny_pure ?_)))))
  show wpAny _ _ (pure ((n : Int) - 1, (-1 : Int), Builtin.Slice.slicePlaces ((n : Int) - 1) (-1) (-1))) _ _ s
  rw [rev_places]
  exact wpAny_pure h
theorem getItem_tuple_rev {t sl : Addr} {items : Array Value} {vl vu vs : Value} {Q : Value → Shared → Prop} (ht : IsTup s.heap t items) (hs : s.heap.IsSliceOf sl vl vu vs) (pl : IsPart vl none) (pu : IsPart vu none) (ps : IsPart vs (some (-1)))
    (h : Q (.ref s.heap.objs.size) { s with heap := s.heap.push { cls := .type "tuple", data := .seq items.toList.reverse.toArray } })
    (hsz : items.size ≤ sizeLine) : wpAny (model prog w) A (getItem (.ref t) (.ref sl)) Q E s := by
  have htake : sizeOk (.seq items.toList.reverse.toArray) := by
    show items.toList.reverse.toArray.size ≤ sizeLine
    rw [List.size_toArray, List.length_reverse, Array.length_toList]
    exact hsz
  obtain ⟨os, hos, hcs, hds⟩ := id hs
  have hTs : s.TypeIs (.ref sl) "slice" := ⟨os, hos, hcs⟩
  unfold getItem
  try with_reducible refine wpAny_holding ?_
  first | refine wpAny_bind (wpAny_pure ?_) | skip
  refine wpAny_bind (wpAny_sequenceKey ht.typeIs (by decide) ?_)
  refine wpAny_bind (wpAny_callSpecial?_slot (name := Str.ofString "__getitem__") ht.typeIs PyProof.Rows.slot_tuple_getitem
    (wpAny_call_entry PyProof.Rows.slot_tuple_getitem ht.typeIs entry_tuple_getitem ?_ (args_tuple_getitem _ _)))
  show wpAny _ _ (Builtin.Tuple.tupleItemsOf (.ref t) >>= _) _ _ s
  refine wpAny_bind (tupleItemsOf_ ht ?_)
  refine wpAny_bind (wpAny_typeOf hTs ?_)
  rw [if_pos (by decide)]
  refine wpAny_bind (sliceApplied_rev hs pl pu ps ?_)
  have hno : ¬ ((((items.size : Int) - 1) == 0 && (-1 : Int) == 1 && items.size == items.size) = true) := by
    intro q
    rw [Bool.and_eq_true, Bool.and_eq_true] at q
    exact absurd q.1.2 (by decide)
  show wpAny _ _ (if (((items.size : Int) - 1) == 0 && (-1 : Int) == 1 && items.size == items.size) = true then _ else _) _ _ s
  rw [if_neg hno, rev_pick]
  first
    | exact wpAny_bind (m := Builtin.Tuple.tupleExact _) (wpAny_newObj_type (wpAny_pure ⟨_, rfl, wpAny_pure h⟩) htake)
    | exact wpAny_bind (m := Builtin.Tuple.tupleExact _) (wpAny_newObj_type (wpAny_bind (wpAny_pure (wpAny_pure ⟨_, rfl, wpAny_pure h⟩))) htake)
    | exact wpAny_bind (wpAny_bind (m := Builtin.Tuple.tupleExact _) (wpAny_newObj_type (wpAny_pure (wpAny_pure ⟨_, rfl, wpAny_pure h⟩)) htake))
    | exact wpAny_bind (wpAny_bind (m := Builtin.Tuple.tupleExact _) (wpAny_newObj_type (wpAny_pure ⟨_, rfl, wpAny_pure h⟩) htake))
end
section
variable {X : Cx}
def tRevT (K : PySem.W.Frag) (te : TE) : TE := fun σ H Q => te σ H fun x H1 => ∃ a xs, x = .ref a ∧ SqT K H1 a xs ∧ ∀ p, H1 p = none → Q (.ref p) (upd H1 p (.tup xs.reverse))
theorem pe_revT {e : Expr} {te : TE} {k : Nat} {p1 p2 p3 pos : Pos} (he : PE X e te) : PE X (.Subscript e (.Slice none none (some (.UnaryOp .USub (.Constant (.int 1) k p1) p2)) p3) pos) (tRevT X.K te) := by
  refine ⟨fun pins s σ H Q I h => ?_⟩
  refine Subscript_ (thn (he.run pins s σ H _ I h) fun v s1 ⟨x, H1, I1, r1, q1⟩ => ?_)
  obtain ⟨a, xs, ex, hx, q⟩ := q1
  subst ex
  cases r1
  have hst : PO X (some (.UnaryOp .USub (.Constant (.int 1) k p1) p2)) (tPart (tUn (rU fun i => .int (-i)) (tC (.int 1)))) := po_some (pe_un un_neg pe_int)
  refine wpAny_Slice (thn (po_none.run pins s1 σ H1 (fun o H2 => o = none ∧ H2 = H1) I1 ⟨rfl, rfl⟩) fun vl s2 ⟨l, H2, I2, pl, el, e2⟩ => ?_)
  subst el e2
  refine thn (po_none.run pins s2 σ H2 (fun o H3 => o = none ∧ H3 = H2) I2 ⟨rfl, rfl⟩) fun vu s3 ⟨u, H3, I3, pu, eu, e3⟩ => ?_
  subst eu e3
  refine thn (hst.run pins s3 σ H3 (fun o H4 => o = some (-1) ∧ H4 = H3) I3 ⟨1, rfl, -1, rfl, rfl, rfl⟩) fun vs s4 ⟨o, H4, I4, ps, eo, e4⟩ => ?_
  subst eo e4
  have I5 : Inv X pins σ H4 { s4 with heap := s4.heap.push { cls := .type "slice", data := .fields #[vl, vu, vs] } } := I4.kept (t' := s4.toks) fun b ob q => Heap.get?_push_of_some _ q
  obtain ⟨its, r, ht, hz⟩ := I5.tuple hx
  have hlen := r.length
  show wpAny (model X.prog X.w) X.A (subscriptTail e (.Slice none none (some (.UnaryOp .USub (.Constant (.int 1) k p1) p2)) p3) (.ref a) (.ref s4.heap.objs.size)) (EP X pins σ Q) X.xe { s4 with heap := s4.heap.push { cls := .type "slice", data := .fields #[vl, vu, vs] } }
  refine tail_any (ops := [.ref a, .ref s4.heap.objs.size]) ht.typeIs (PyProof.Rows.slot_tuple_getitem.lookup) ?_ (by with_unfolding_all rfl)
  refine getItem_tuple_rev ht (Heap.IsSliceOf.new _ vl vu vs) pl pu ps ?_ (by rw [List.size_toArray]; omega)
  refine ⟨.ref _, _, I5.laid (t' := s4.toks) (o := .tup xs.reverse) (fun b ob q => Heap.get?_push_of_some _ q) (Nat.le_refl _) ?_, rfl, q _ (I5.hok.fresh (Nat.le_refl _))⟩
  exact ⟨by rw [List.length_reverse]; exact hz, _, r.reverse, IsTup.new _ _⟩
/-! ### list + list, whatever they are -/
def rCatF (K : PySem.W.Frag) : R2 := fun x y H Q => ∃ a b xs ys, x = .ref a ∧ y = .ref b ∧ SqL K H a xs ∧ SqL K H b ys ∧ xs.length + ys.length ≤ sizeLine ∧ ∀ p, H p = none → Q (.ref p) (upd H p (.lst (xs ++ ys)))
theorem op_catF : OpR X (binaryOp .Add) (rCatF X.K) := by
  intro pins s σ H x y v u Q I rx ry h
  obtain ⟨a, b, xs, ys, rfl, rfl, ha, hb, hz, q⟩ := h
  cases rx
  cases ry
  obtain ⟨its, r, ⟨⟨c, dd, da, sl⟩, n, e, hc, hd, hs⟩, _⟩ := I.list ha
  obtain ⟨its2, r2, ⟨⟨c2, dd2, da2, sl2⟩, n2, e2, hc2, hd2, hs2⟩, _⟩ := I.list hb
  simp only at hc hd hs hc2 hd2 hs2
  subst hc hd hs hc2 hd2 hs2
  have l1 := r.length
  have l2 := r2.length
  have ea : its.toArray ++ its2.toArray = (its ++ its2).toArray := by simp
  refine concat_meets ⟨_, e, rfl⟩ ⟨_, e2, rfl⟩ noFill_list_add seq_list_add PySem.F.slot_list_add PySem.F.entry_list_add (PySem.F.args_list_add_2 _ _)
    (list_addW a b its.toArray its2.toArray n n2 none none sl sl2 (by rw [List.size_toArray, List.size_toArray]; omega)) ⟨e, e2, ?_⟩
  rw [ea]
  exact ⟨.ref _, _, I.lnew (t' := s.toks) (r.append r2) (by rw [List.length_append]; omega), rfl, q _ I.fresh⟩
end
end L2
namespace DX
open PySem L2
section
variable {X : Cx} {K : PySem.W.Frag} {e : Expr} {te : TE} {pos : Pos}
theorem kpe_revT {k : Nat} {p1 p2 p3 : Pos} (he : PE X e te) (hK : X.K = K := by rfl) : PE X (.Subscript e (.Slice none none (some (.UnaryOp .USub (.Constant (.int 1) k p1) p2)) p3) pos) (tRevT K te) := by subst hK; exact pe_revT he
theorem kx_catF (hK : X.K = K := by rfl) : OpR X (binaryOp .Add) (rCatF K) := by subst hK; exact op_catF
end
variable [TabEnv]
section
variable {K : PySem.W.Frag} {δ : List SV} {te ta tb : TE} {ds es : List D}
theorem ed_revT (h : ED K te δ (.tuple ds)) : ED K (tRevT K te) δ (.tuple ds.reverse) := fun B0 H0 B H σ Q S q => h B0 H0 B H σ _ S fun v B1 H1 s1 a => by
  cases a with
  | tup hs hA => exact ⟨_, _, rfl, sqT_up s1.bh hs, fun p hp => q _ (upd B1 p (.tup _)) _ (s1.trans (.new s1.bh hp)) (.tup (.inl (.inl upd_same)) (DqAll.up (same_new (s1.bh.free hp)) _ _ (dqall_rev hA)))⟩
theorem en_catF (ha : ED K ta δ (.list ds)) (hb : ED K tb δ (.list es)) (hl : ds.length + es.length ≤ sizeLine) : EN K (tOp (rCatF K) ta tb) δ (ds ++ es) := fun B0 H0 B H σ Q S q =>
  ha B0 H0 B H σ _ S fun v B1 H1 s1 a => hb B0 H0 B1 H1 σ _ (S.step s1) fun w B2 H2 s2 b => by
    cases a with
    | lst hs hA =>
      cases b with
      | lst ks kA =>
        have st := s1.trans s2
        exact ⟨_, _, _, _, rfl, rfl, (s2.bb.trans s2.bh).seq hs, s2.bh.seq ks, by rw [hA.len, kA.len]; exact hl, fun p hp => q p _ B2 _ (st.trans (.newOwn s2.bh hp)) (st.hh.free hp) (s2.bh.free hp) upd_same ((DqAll.up s2.bb _ _ hA).app kA)⟩
end
end DX

namespace LamK
open PySem L2 LamX PySem.Spec PyProof.Rows PySem.W
section
variable {X : Cx} {pins : List (Addr × Obj)} {σ : L2.St} {s : Shared} {H : Hp}
/-- the lambda is called from any depth -/
theorem lam_callA {AA : Around} {sco : Scope} {f c' : Addr} {md ctw : Value} {prs : Arguments} {what : Expr} {k pi : Nat} {a : Str} {x : V} {u : Value} {tb : TE} {Q : VK} {E : Value → Shared → Prop} (I : Inv X pins σ H s) (M1 : LamOne a X.env.scope sco) (nd : X.N.Nodup) (hip : X.N[pi]? = some a) (rel : RelV x u)
    (hf : s.heap.get? f = some (PySem.W.kla_obj "<lambda>" (X.env.qual ++ "<lambda>") prs what sco (cloFrom X.env.cells sco.names []) md c' ctw)) (hco : H c' = some (CodeO c' (X.env.qual ++ "<lambda>")))
    (hbind : bindArgs (PySem.W.kla_fn "<lambda>" (X.env.qual ++ "<lambda>") prs what sco (cloFrom X.env.cells sco.names []) md (.ref c') ctw) ⟨[u], []⟩ = pure [(a, u)])
    (hr1 : Room (k + 1) AA) (ent : Env0 X.prog X.w X.K X.mg X.base AA X.stack s H) (hbody : ∀ (A : Around) (out : List Env) (s : Shared) (H : Hp), Room k (A.deeper (lamEnv X sco s.heap.objs.size f c')) → PE (lamCtx X A out s H sco f c') what tb)
    (ht : tb (σ.set pi (some x)) H Q) : wpAny (model X.prog X.w) AA (call (.ref f) [u]) (fun r s' => ∃ v H', Inv X pins σ H' s' ∧ RelV v r ∧ Q v H' ∧ Un (frs X.stack) [] H H' s.heap s'.heap) E s := by
  obtain ⟨⟨oc, vs, t, hoc, hdc, hvc⟩, _, _⟩ := I.hok c' _ hco
  have rc : codeAny (model X.prog X.w) AA (.call (.ref f) ⟨[u], []⟩) (CR (fun _ _ _ _ _ _ => False) X.stack X.prog X.w H s Q (fun _ _ _ => False)) s := by
    refine PySem.W.kla_callFunE hr1.depth hf rfl M1.co M1.gen rfl ⟨c', oc, vs, t, rfl, hoc, hdc, hvc⟩ ?_
    rw [hbind]
    refine wpAny_pure (wpAny_newFunctionEnv (fun nm hy => (M1.own nm hy).1) (fun nm hy => by rw [List.mem_singleton.mp hy]; exact M1.par) (fun h₁ spaceOk hsb => ⟨I.nolimit.fresh _ hsb, ?_⟩) M1.kind)
    show codeAny _ _ (.expr what (lamEnv X sco s.heap.objs.size f c')) _ _
    have stays : ∀ b o, s.heap.get? b = some o → h₁.get? b = some o := fun b o e => hsb.extBut b o (Nat.ne_of_lt (Heap.lt_size e)) (Heap.get?_push_of_some _ e)
    have J : Inv (lamCtx X AA X.stack s H sco f c') [] (σ.set pi (some x)) H { s with heap := h₁, toks := s.toks + ([(a, u)] : List (Str × Value)).length } :=
      lam_enter I M1 nd hip rel ent hr1.hd spaceOk stays
    refine PySem.W.kla_codeExpr (wpAny_mono ((hbody _ _ s H (hr1.deeper _)).run [] _ _ H Q J ht) (fun v s' hq => ?_) fun e s' hq => hq)
    obtain ⟨wv, Hn, Jn, rv, qq⟩ := hq
    exact ⟨wv, Hn, Jn.os, Jn.bare, Jn.base, Jn.hok, rv, qq⟩
  refine wpAny_call (codeAny_mono rc fun rel s2 hq => ?_)
  cases rel with
  | error e => exact (show False from hq).elim
  | ok fl =>
    cases fl with
    | ret u =>
      obtain ⟨v, H', os, bare, un, hok, r, q⟩ := hq
      obtain ⟨v2, H2, I2, r2, rfl, rfl⟩ := I.after (Q := fun v2 H2 => v2 = v ∧ H2 = H') ⟨v, H', os, bare, un, hok, r, rfl, rfl⟩
      exact ⟨_, _, I2, r2, q, un⟩
    | next => exact False.elim hq
    | brk => exact False.elim hq
    | cont => exact False.elim hq
/-- what a key does, called for each of xs in turn: W stays, the answers are the data kd -/
structure KeyS (K : PySem.W.Frag) (tk : TE) (pi : Nat) (σ : L2.St) (xs : List V) (kd : Nat → PyData) (W : Hp → Prop) : Prop where
  key : ∀ (i : Nat) (x : V) (H' : Hp), xs[i]? = some x → W H' → tk (σ.set pi (some x)) H' fun r H'' => Dq K H'' r (kd i) ∧ W H'' ∧ Sam H' H''
def sortO (n : Nat) (kd : Nat → PyData) : List Nat := (List.range n).mergeSort (dataLe false kd)
theorem each_vals {xs : List V} : ∀ {out : List Value} {is : List Nat}, EachIs (fun v i => ∃ x, xs[i]? = some x ∧ RelV x v) out is → Vals (is.map fun i => xs.getD i .non) out
  | _, _, .nil => .nil
  | _, _, .cons h t => by
    obtain ⟨x, e, r⟩ := h
    refine .cons ?_ (each_vals t)
    show RelV (xs.getD _ .non) _
    rw [List.getD_eq_getElem?_getD, e]
    exact r
theorem vals_each {xs : List V} : ∀ {ys : List V} {vs : List Value} (m : Nat), Vals ys vs → (∀ i, ys[i]? = xs[m + i]?) → EachIs (fun v i => ∃ x, xs[i]? = some x ∧ RelV x v) vs ((List.range ys.length).map fun i => m + i)
  | _, _, m, .nil, _ => .nil
  | _, _, m, .cons r t, e => by
    rw [List.length_cons, List.range_succ_eq_map, List.map_cons, List.map_map]
    refine .cons ⟨_, (e 0).symm, r⟩ ?_
    have h := vals_each (m + 1) t fun i => by
      have := e (i + 1)
      rw [List.getElem?_cons_succ] at this
      rw [this]
      congr 1
      omega
    have ee : ((fun i => m + i) ∘ Nat.succ) = fun i => m + 1 + i := by
      funext i
      show m + (i + 1) = m + 1 + i
      omega
    rw [ee]
    exact h
theorem get_freed {h : Heap} {a : Addr} : (h.update a fun o => { o with data := .freed }).get? a = none := by
  cases h with
  | mk objs l =>
    unfold Heap.get? Heap.update
    simp only [Array.getElem?_modify, if_true]
    cases objs[a]? with
    | none => rfl
    | some o => rfl
theorem sort_keyed {sco : Scope} {f c' l : Addr} {md ctw : Value} {prs : Arguments} {what : Expr} {k pi : Nat} {a : Str} {tk : TE} {xs : List V} {kd : Nat → PyData} {W : Hp → Prop} {Q : VK}
    (I : Inv X pins σ H s) (M1 : LamOne a X.env.scope sco) (nd : X.N.Nodup) (hip : X.N[pi]? = some a)
    (hbind : ∀ u : Value, bindArgs (PySem.W.kla_fn "<lambda>" (X.env.qual ++ "<lambda>") prs what sco (cloFrom X.env.cells sco.names []) md (.ref c') ctw) ⟨[u], []⟩ = pure [(a, u)])
    (hr : Room (k + 3) X.A) (hbody : ∀ (A : Around) (out : List Env) (s : Shared) (H : Hp), Room k (A.deeper (lamEnv X sco s.heap.objs.size f c')) → PE (lamCtx X A out s H sco f c') what tk)
    (kw : KeyS X.K tk pi σ xs kd W) (hW : ∀ H', W H' → H' c' = some (CodeO c' (X.env.qual ++ "<lambda>"))) (w : W H) (hl : SqL X.K H l xs) (ffr : f ∉ frs X.stack) (nf : H f = none)
    (hf : s.heap.get? f = some (PySem.W.kla_obj "<lambda>" (X.env.qual ++ "<lambda>") prs what sco (cloFrom X.env.cells sco.names []) md c' ctw))
    (hal : AllAlike ((List.range xs.length).map kd)) (hso : Sortable ((List.range xs.length).map kd)) (hdp : ∀ i, i < xs.length → (kd i).depth ≤ 40) (hcl : ∀ i, i < xs.length → (kd i).canLay0 = true)
    (q : ∀ p H', W H' → H' p = none → H p = none → Q (.ref p) (upd H' p (.lst ((sortO xs.length kd).map fun i => xs.getD i .non)))) :
    wpAny (model X.prog X.w) X.A (call (.builtin "sorted") [.ref l] [(Str.ofString "key", .ref f)]) (EP X pins σ Q) X.xe s := by
  obtain ⟨its, rv, pl, hz⟩ := I.list hl
  have li := rv.length
  have hz2 : its.length ≤ sizeLine := by omega
  refine sorted_of_sort (vs := its) pl.isList hz2 (ksk_s1 _ _) (fun _ => ksk_l1 _ _) fun E' => ?_
  rw [ksk_t1]
  have ho := copyHeap_at s.heap its
  have la : s.heap.objs.size ≤ s.heap.objs.size + 1 := Nat.le_succ _
  generalize hA : s.heap.objs.size + 1 = A0 at ho la ⊢
  have old1 : ∀ b o, s.heap.get? b = some o → (copyHeap s.heap its).get? b = some o := fun b o e => copyHeap_old e
  have ltA : ∀ b o, s.heap.get? b = some o → b < A0 := fun b o e => Nat.lt_of_lt_of_le (Heap.lt_size e) la
  generalize copyHeap s.heap its = g1 at ho old1 ⊢
  obtain ⟨e1, ho1⟩ : ∃ e1, (g1.update A0 (Obj.mapSeq fun _ => (#[] : Array Value))).get? A0 = some (seqObj "list" #[] e1) := ⟨_, get?_update_seq ho fun _ => #[]⟩
  have lA1 := Heap.lt_size ho1
  have old2 : ∀ b o, s.heap.get? b = some o → (g1.update A0 (Obj.mapSeq fun _ => (#[] : Array Value))).get? b = some o := fun b o e => (Heap.get?_update_ne _ _ _ _ (Nat.ne_of_lt (ltA b o e))).trans (old1 b o e)
  unfold ksk_tree
  refine wpAny_bind (listItems_at ho rfl ?_)
  refine wpAny_bind (listUpdate_at ho rfl ?_ (by rw [List.size_toArray]; exact hz2) (Nat.zero_le _))
  refine wpAny_bind (seqEpoch_at ho1 rfl ?_)
  refine wpAny_bind (wpAny_newTuple ?_ (by show its.length ≤ _; exact hz2))
  refine wpAny_bind (wpAny_newList ?_ (Nat.zero_le _))
  refine wpAny_holding ?_
  have lk : ((g1.update A0 (Obj.mapSeq fun _ => (#[] : Array Value))).push (seqObj "tuple" its.toArray 0)).objs.size = (g1.update A0 (Obj.mapSeq fun _ => (#[] : Array Value))).objs.size + 1 := size_push' ..
  show wpAny (model X.prog X.w) X.A.in1.in1 (ksk_rest A0 (.ref f) false its.toArray e1 (.ref ((g1.update A0 (Obj.mapSeq fun _ => (#[] : Array Value))).push (seqObj "tuple" its.toArray 0)).objs.size)) _ _ { s with heap := ((g1.update A0 (Obj.mapSeq fun _ => (#[] : Array Value))).push (seqObj "tuple" its.toArray 0)).push (seqObj "list" #[] 0) }
  generalize hG : g1.update A0 (Obj.mapSeq fun _ => (#[] : Array Value)) = g2 at ho1 lA1 old2 lk ⊢
  generalize hg3 : g2.push (seqObj "tuple" its.toArray 0) = g3 at lk ⊢
  have old3 : ∀ b o, g2.get? b = some o → g3.get? b = some o := fun b o e => by rw [← hg3]; exact Heap.get?_push_of_some _ e
  generalize hK : g3.objs.size = kS at lk ⊢
  have nk0 : (g3.push (seqObj "list" #[] 0)).get? kS = some (seqObj "list" #[] 0) := by rw [← hK]; exact Heap.get?_push_size _ rfl
  have old4 : ∀ b o, g2.get? b = some o → (g3.push (seqObj "list" #[] 0)).get? b = some o := fun b o e => Heap.get?_push_of_some _ (old3 b o e)
  have lAK : A0 < kS := by rw [lk]; exact Nat.lt_succ_of_lt lA1
  have hkA : kS ≠ A0 := Nat.ne_of_gt lAK
  generalize g3.push (seqObj "list" #[] 0) = g4 at nk0 old4 ⊢
  have I4 : Inv X pins σ H { s with heap := g4, toks := s.toks } := I.kept fun b u e => old4 b u (old2 b u e)
  have hsA : s.heap.objs.size ≤ A0 := la
  have hsK : s.heap.objs.size ≤ kS := Nat.le_trans la (Nat.le_of_lt lAK)
  have na : H A0 = none := I.hok.fresh hsA
  have nk : H kS = none := I.hok.fresh hsK
  have Afr := far_frs I hsA
  have Kfr := far_frs I hsK
  have pA : ∀ H', H' A0 = none → FpOk X pins H' A0 := fun H' h => I.fpOk hsA h
  have pK : ∀ H', H' kS = none → FpOk X pins H' kS := fun H' h => I.fpOk hsK h
  have lf := Heap.lt_size hf
  have fA : f ≠ A0 := Nat.ne_of_lt (Nat.lt_of_lt_of_le lf hsA)
  have fK : f ≠ kS := Nat.ne_of_lt (Nat.lt_of_lt_of_le lf hsK)
  have hf4 : g4.get? f = some (PySem.W.kla_obj "<lambda>" (X.env.qual ++ "<lambda>") prs what sco (cloFrom X.env.cells sco.names []) md c' ctw) := old4 _ _ (old2 _ _ hf)
  have na0 : g4.get? A0 = some (seqObj "list" #[] e1) := old4 _ _ ho1
  unfold ksk_rest
  refine wpAny_bind (wpAny_rule ?_)
  first
    | rw [List.forIn_toArray]
    | (rw [← Array.forIn_toList]; simp only [List.toList_toArray])
    | rw [← Array.forIn_toList]
  refine wpAny_bind (ksk_fold (fun i s' => ∃ H' kA e, Inv X pins σ H' s' ∧ W H' ∧ H' f = none ∧ H' A0 = none ∧ H' kS = none ∧ s'.heap.get? f = some (PySem.W.kla_obj "<lambda>" (X.env.qual ++ "<lambda>") prs what sco (cloFrom X.env.cells sco.names []) md c' ctw) ∧ s'.heap.get? kS = some (seqObj "list" kA e) ∧ s'.heap.get? A0 = some (seqObj "list" #[] e1) ∧ EachIs (fun v d => ∃ r, RelV r v ∧ Dq X.K H' r d) kA.toList (((List.range xs.length).map kd).take i)) its 0 _
    ⟨H, #[], 0, I4, w, nf, na, nk, hf4, nk0, na0, by rw [List.take_zero]; exact EachIs.nil⟩ ?step ?done)
  case step =>
    rintro j x s' hx ⟨H', kA, e, I', w', n1, n2, n3, f1, f2, f3, hk⟩
    simp only [Nat.zero_add] at hk ⊢
    have hj : j < its.length := (List.getElem?_eq_some_iff.mp hx).1
    obtain ⟨y, hy⟩ : ∃ y, xs[j]? = some y := ⟨_, List.getElem?_eq_getElem (by omega)⟩
    obtain ⟨uu, hu, ru⟩ := rv.get hy
    rw [hx] at hu
    cases hu
    have hz3 : kA.size ≤ its.length := by
      have h1 := hk.length
      rw [Array.length_toList, List.length_take, List.length_map, List.length_range] at h1
      omega
    refine wpAny_bind (wpAny_attempt (wpAny_mono (lam_callA (E := fun _ _ => False) (Q := fun r H'' => Dq X.K H'' r (kd j) ∧ W H'' ∧ Sam H' H'') I' M1 nd hip ru f1 (hW H' w') (hbind x) hr.in1.in1 I'.env0.in1.in1 hbody (kw.key j y H' hy w')) (fun v s2 hq => ?_) fun _ _ hF => hF.elim))
    obtain ⟨r, H2, I2, rr, ⟨dq, w2, sm⟩, un⟩ := hq
    have f1' := un.keep f _ f1 n1 ffr (by simp)
    have f2' := un.keep kS _ f2 n3 Kfr (by simp)
    have f3' := un.keep A0 _ f3 n2 Afr (by simp)
    have m1 := un.free f _ f1 n1 (by simp)
    have m2 := un.free A0 _ f3 n2 (by simp)
    have m3 := un.free kS _ f2 n3 (by simp)
    try dsimp only
    refine wpAny_bind (listUpdate_at f2' rfl ?_ (Nat.le_trans hz3 hz2) (Nat.le_trans (Nat.le_of_eq (Array.size_push ..)) (Nat.succ_le_succ (Nat.le_trans hz3 hz2))))
    obtain ⟨e2, up⟩ : ∃ e2, (s2.heap.update kS (Obj.mapSeq (·.push v))).get? kS = some (seqObj "list" (kA.push v) e2) := ⟨_, get?_update_seq f2' (·.push v)⟩
    have away : ∀ b o, b ∉ [kS] → s2.heap.get? b = some o → (s2.heap.update kS (Obj.mapSeq (·.push v))).get? b = some o := fun b o hb e => (Heap.get?_update_ne _ _ _ _ (fun z => hb (List.mem_singleton.mpr z))).trans e
    have I3 := I2.turnedL (t' := s2.toks) (ch := [kS]) away fun b hb => by rw [List.mem_singleton.mp hb]; exact pK H2 m3
    refine wpAny_pure ⟨rfl, H2, kA.push v, e2, I3, w2, m1, m2, m3, away f _ (by simp [fK]) f1', up, away A0 _ (by simp [hkA.symm]) f3', ?_⟩
    have tk1 : ((List.range xs.length).map kd).take (j + 1) = ((List.range xs.length).map kd).take j ++ [kd j] := by
      rw [List.take_add_one, List.getElem?_map, List.getElem?_range (by omega)]
      rfl
    have tk2 : (kA.push v).toList = kA.toList ++ [v] := by simp
    rw [tk1, tk2]
    exact each_snoc (R := fun v d => ∃ r, RelV r v ∧ Dq X.K H2 r d) ⟨r, rr, dq⟩ (hk.mono fun u d ⟨r, a1, a2⟩ => ⟨r, a1, Dq.up sm _ _ a2⟩)
  case done =>
    rintro s' ⟨H', kA, e, I', w', n1, n2, n3, f1, f2, f3, hk⟩
    have all : ((List.range xs.length).map kd).take (0 + its.length) = (List.range xs.length).map kd := List.take_of_length_le (by rw [List.length_map, List.length_range]; omega)
    rw [all] at hk
    have hk2 : EachIs (fun v d => ∃ as, Reads s'.heap v d as) kA.toList ((List.range xs.length).map kd) := by
      refine (each_mem hk).mono fun v d ⟨⟨r, a1, a2⟩, hd⟩ => ?_
      obtain ⟨i, mi, rfl⟩ := List.mem_map.mp hd
      exact Dp.reads I' _ _ _ (Dq.dp _ _ a2 (hcl i (List.mem_range.mp mi))) a1
    have sz : kA.size = its.length := by
      have h1 := hk2.length
      rw [Array.length_toList, List.length_map, List.length_range] at h1
      omega
    try dsimp only
    refine wpAny_bind (listItems_at f2 rfl ?_)
    obtain ⟨h₁, k0, k1⟩ : ∃ h₁ : Heap, h₁.get? kS = none ∧ ∀ b, b ≠ kS → h₁.get? b = s'.heap.get? b := by
      refine ⟨s'.heap.update kS (fun o => { o with data := .freed }), ?_, fun b hb => Heap.get?_update_ne _ _ _ _ hb⟩
      exact get_freed
    refine keyH_end (κ := dataKind s'.heap ((List.range xs.length).map kd)) (h₁ := h₁) (fun b o hb eb => ?_) k0 f2 f3 hkA (SortsAt.data hk2 hal hso fun d hd => ?_) sz hz2 fun h' tk c kp gA => ⟨rfl, ?_⟩
    · by_cases hb2 : b = kS
      · rw [hb2, k0] at eb; cases eb
      · rw [← k1 b hb2]; exact eb
    · obtain ⟨i, mi, rfl⟩ := List.mem_map.mp hd
      have := hdp i (List.mem_range.mp mi)
      have := hr.units
      show X.A.in1.in1.units + _ < cLine
      have e2 : X.A.in1.in1.units ≤ X.A.units + 2 := Nat.le_refl _
      omega
    · have away : ∀ b o, b ∉ [kS, A0] → s'.heap.get? b = some o → h'.get? b = some o := fun b o hb eb => by
        have b1 : b ≠ kS := fun z => hb (by simp [z])
        have b2 : b ≠ A0 := fun z => hb (by simp [z])
        exact kp b o b2 ((k1 b b1).trans eb)
      have I5 := I'.turnedL (t' := tk) (ch := [kS, A0]) away fun b hb => by
        rcases List.mem_cons.mp hb with z | z
        · rw [z]; exact pK H' n3
        · rw [List.mem_singleton.mp z]; exact pA H' n2
      have eo : EachIs (fun v i => ∃ x, xs[i]? = some x ∧ RelV x v) (sortVals (dataKind s'.heap ((List.range xs.length).map kd)) false kA.toList its) (sortO xs.length kd) := by
        refine keyedOut_each kd (vs := its) ⟨s'.heap, kA.toList, hal, rfl, hk2⟩ ?_
        have := vals_each (xs := xs) 0 rv fun i => by rw [Nat.zero_add]
        have e0 : ((List.range xs.length).map fun i => 0 + i) = List.range xs.length := by
          rw [show (fun i => 0 + i) = (id : Nat → Nat) from funext fun i => Nat.zero_add i, List.map_id]
        rw [e0] at this
        exact this
      have vo := each_vals eo
      have lo := vo.length
      have ls : ((sortO xs.length kd).map fun i => xs.getD i .non).length = xs.length := by
        unfold sortO
        rw [List.length_map, List.length_mergeSort, List.length_range]
      refine ⟨.ref A0, _, I5.take (t' := tk) (fun b o _ e => e) (pA H' n2) (o := .lst ((sortO xs.length kd).map fun i => xs.getD i .non)) ?_, rfl, q A0 H' w' n2 na⟩
      exact ⟨by rw [ls]; exact hz, _, c, vo, gA⟩
/-- sorted(l, key=a lambda): a new list -/
def tSortK [TabEnv] (K : PySem.W.Frag) (pi : Nat) (ta tk : TE) : TE := fun σ H Q => ta σ H fun v H1 => TabsG H1 ∧ ∃ a, v = .ref a ∧ ∀ H2, Sam H1 H2 → TabsG H2 → ∃ (xs : List V) (kd : Nat → PyData) (W : Hp → Prop), (∀ H', W H' → Sam H2 H') ∧ W H2 ∧ SqL K H2 a xs ∧ KeyS K tk pi σ xs kd W ∧
  AllAlike ((List.range xs.length).map kd) ∧ Sortable ((List.range xs.length).map kd) ∧ (∀ i, i < xs.length → (kd i).depth ≤ 40) ∧ (∀ i, i < xs.length → (kd i).canLay0 = true) ∧
  ∀ p H', W H' → H' p = none → H2 p = none → Q (.ref p) (upd H' p (.lst ((sortO xs.length kd).map fun i => xs.getD i .non)))
section
variable [G : TabEnv] {e : Expr} {ta tk : TE} {c P : Addr} {prs : Arguments} {what : Expr} {sco : Scope} {p pos lpos kpos : Pos} {k pi : Nat} {a : Str}
theorem pe_sortK (hg : Gl X "sorted") (hm : X.mg "sorted" = none) (he : PE X e ta) (TB : TabB X.base X.mg c P) (hcode : X.env.code = .ref c) (hmT : (P, X.env.qual ++ "<lambda>") ∈ G.T) (M1 : LamOne a X.env.scope sco) (nd : X.N.Nodup) (hip : X.N[pi]? = some a) (hr : Room (k + 3) X.A)
    (hbind : ∀ (md ctw u : Value) (c' : Addr), bindArgs (PySem.W.kla_fn "<lambda>" (X.env.qual ++ "<lambda>") prs what sco (cloFrom X.env.cells sco.names []) md (.ref c') ctw) ⟨[u], []⟩ = pure [(a, u)])
    (hbody : ∀ (A : Around) (out : List Env) (s : Shared) (H : Hp) (f c' : Addr), Room k (A.deeper (lamEnv X sco s.heap.objs.size f c')) → PE (lamCtx X A out s H sco f c') what tk) (hdef : defaultsOf prs X.env = ([], []) := by rfl)
    (hst : backTo pos (starEach [e] X.env) = (false, eval e X.env) :: backTo pos (starEach [] X.env) := by rfl) :
    PE X (.Call (.Name "sorted" p) [e] [⟨some "key", .Lambda prs what sco lpos, kpos⟩] pos) (tSortK X.K pi ta tk) := by
  refine ⟨fun pins s σ H Q I h => ?_⟩
  refine wpAny_Call_Name_kw (ld_blt I hg hm (by rfl) ?_)
  refine PyProof.Rows.callWith_kw ?_ hst (by rw [hst]; rfl)
  rw [hst]
  refine Calls.spliced_cons (thn (he.run pins s σ H _ I h) fun u s1 ⟨v, H1, I1, r1, tb, ax, ev, q⟩ => Calls.spliced_nil ?_)
  subst ev
  cases r1
  refine wpAny_evalAll_cons (wpAny_bind (lam_mk I1 tb TB hcode hmT hdef (M1.has I1.ok) fun f c' md ctw H2 s2 I2 sam tb2 hf nf ffr hco => wpAny_bind (wpAny_standAt (wpAny_pure (wpAny_evalAll_nil ?_)))))
  obtain ⟨xs, kd, W, hW, w, hl, kw, b1, b2, b3, b4, fin⟩ := q H2 sam tb2
  exact sort_keyed I2 M1 nd hip (hbind md ctw · c') hr (fun A out s H => hbody A out s H f c') kw (fun H' w => (hW H' w).at hco codeO_tbl) w hl ffr nf hf b1 b2 b3 b4 fin
end
end
end LamK
namespace DX
open PySem L2 LamK PySem.W
variable [TabEnv]
section
variable {K : PySem.W.Frag} {δ : List SV} {ta tb te tk : TE} {ds xs : List D} {m pi : Nat}
theorem getV_map {B : Hp} {vs : List V} (h : DqAll K B vs xs) {is : List Nat} (hi : ∀ i ∈ is, i < xs.length) : DqAll K B (is.map fun i => vs.getD i .non) (is.map fun i => xs.getD i .none) := by
  induction is with
  | nil => exact .nil
  | cons i is ih =>
    have hl := hi i (List.mem_cons_self ..)
    have hv : i < vs.length := by rw [h.len]; exact hl
    obtain ⟨d, hd, dv⟩ := h.getV (i := i) (List.getElem?_eq_getElem hv)
    refine .cons ?_ (ih fun j mj => hi j (List.mem_cons_of_mem _ mj))
    show Dq K B (vs.getD i .non) (xs.getD i .none)
    rw [List.getD_eq_getElem?_getD, List.getD_eq_getElem?_getD, hd, List.getElem?_eq_getElem hv]
    exact dv
/-- of a list that is known: the items stand by their keys, stably -/
theorem en_sortK (hx : ED K ta δ (.list xs)) (kd : Nat → D) (hk : ∀ i x, xs[i]? = some x → ED K tk (δ.set pi (.val x)) (kd i)) (b1 : AllAlike ((List.range xs.length).map kd)) (b2 : Sortable ((List.range xs.length).map kd)) (b3 : ∀ i, i < xs.length → (kd i).depth ≤ 40) (b4 : ∀ i, i < xs.length → (kd i).canLay0 = true) :
    EN K (tSortK K pi ta tk) δ ((sortO xs.length kd).map fun i => xs.getD i .none) := fun B0 H0 B H σ Q S q =>
  hx B0 H0 B H σ _ S fun v B1 H1 s1 dv => by
    cases dv with
    | @lst a vs _ hs hv =>
      refine ⟨s1.bh.tb, a, rfl, fun H2 sam tb => ?_⟩
      have st := Stp.tabs s1.bh sam tb
      have sq := (S.step s1).step st
      refine ⟨vs, kd, fun H' => ∃ B', Stp B1 H2 B' H', fun H' ⟨B', s⟩ => s.hh, ⟨B1, .refl st.bh⟩, st.bh.seq hs, ⟨fun i v H' hi ⟨B', s⟩ => ?_⟩, by rw [hv.len]; exact b1, by rw [hv.len]; exact b2, fun i hi => b3 i (by rw [← hv.len]; exact hi), fun i hi => b4 i (by rw [← hv.len]; exact hi), fun p H' ⟨B', s⟩ np n2 => ?_⟩
      · obtain ⟨d, hd, dv⟩ := hv.getV hi
        refine hk i d hd B0 H0 B' H' _ _ ((sq.step s).setVal (Dq.up s.bb _ _ dv)) fun r B'' H'' s2 dr => ?_
        exact ⟨Dq.up s2.bh _ _ dr, ⟨B'', s.trans s2⟩, s2.hh⟩
      · have fin := (s1.trans st).trans s
        rw [hv.len]
        refine q p _ B' _ (fin.trans (.newOwn s.bh np)) (fin.hh.free np) (s.bh.free np) upd_same (getV_map (DqAll.up s.bb _ _ hv) fun i hi => ?_)
        unfold sortO at hi
        exact List.mem_range.mp (List.mem_mergeSort.mp hi)
end
end DX

namespace LamK
open PySem L2 LamX PySem.Spec PyProof.Rows PySem.W
section
variable {X : Cx} {pins : List (Addr × Obj)} {σ : L2.St} {s : Shared} {H : Hp}
theorem sort_core {sco : Scope} {f c' A0 : Addr} {its : List Value} {n0 : Nat} {E' : Value → Shared → Prop} {md ctw : Value} {prs : Arguments} {what : Expr} {k pi : Nat} {a : Str} {tk : TE} {xs : List V} {kd : Nat → PyData} {W : Hp → Prop} {Q : VK}
    (I : Inv X pins σ H s) (M1 : LamOne a X.env.scope sco) (nd : X.N.Nodup) (hip : X.N[pi]? = some a)
    (hbind : ∀ u : Value, bindArgs (PySem.W.kla_fn "<lambda>" (X.env.qual ++ "<lambda>") prs what sco (cloFrom X.env.cells sco.names []) md (.ref c') ctw) ⟨[u], []⟩ = pure [(a, u)])
    (hr : Room (k + 3) X.A) (hbody : ∀ (A : Around) (out : List Env) (s : Shared) (H : Hp), Room k (A.deeper (lamEnv X sco s.heap.objs.size f c')) → PE (lamCtx X A out s H sco f c') what tk)
    (kw : KeyS X.K tk pi σ xs kd W) (hW : ∀ H', W H' → H' c' = some (CodeO c' (X.env.qual ++ "<lambda>"))) (w : W H) (rv : Vals xs its) (hz : xs.length ≤ sizeLine) (ho : s.heap.get? A0 = some (seqObj "list" its.toArray n0)) (na : H A0 = none) (pA : ∀ H', H' A0 = none → FpOk X pins H' A0) (Afr : A0 ∉ frs X.stack) (fA : f ≠ A0) (ffr : f ∉ frs X.stack) (nf : H f = none)
    (hf : s.heap.get? f = some (PySem.W.kla_obj "<lambda>" (X.env.qual ++ "<lambda>") prs what sco (cloFrom X.env.cells sco.names []) md c' ctw))
    (hal : AllAlike ((List.range xs.length).map kd)) (hso : Sortable ((List.range xs.length).map kd)) (hdp : ∀ i, i < xs.length → (kd i).depth ≤ 40) (hcl : ∀ i, i < xs.length → (kd i).canLay0 = true)
    (q : ∀ p H', W H' → H' p = none → H p = none → Q (.ref p) (upd H' p (.lst ((sortO xs.length kd).map fun i => xs.getD i .non)))) :
    wpAny (model X.prog X.w) X.A.in1.in1 (ksk_tree A0 (.ref f) false) (fun r s' => r = .done (.ret .none) ∧ EP X pins σ Q (.ref A0) s') E' s := by
  have li := rv.length
  have hz2 : its.length ≤ sizeLine := by omega
  have hAo := Heap.lt_size ho
  obtain ⟨e1, ho1⟩ : ∃ e1, (s.heap.update A0 (Obj.mapSeq fun _ => (#[] : Array Value))).get? A0 = some (seqObj "list" #[] e1) := ⟨_, get?_update_seq ho fun _ => #[]⟩
  have lA1 := Heap.lt_size ho1
  have old2 : ∀ b o, b ∉ [A0] → s.heap.get? b = some o → (s.heap.update A0 (Obj.mapSeq fun _ => (#[] : Array Value))).get? b = some o := fun b o hb e => (Heap.get?_update_ne _ _ _ _ fun z => hb (List.mem_singleton.mpr z)).trans e
  have hszU : (s.heap.update A0 (Obj.mapSeq fun _ => (#[] : Array Value))).objs.size = s.heap.objs.size := Heap.size_update ..
  unfold ksk_tree
  refine wpAny_bind (listItems_at ho rfl ?_)
  refine wpAny_bind (listUpdate_at ho rfl ?_ (by rw [List.size_toArray]; exact hz2) (Nat.zero_le _))
  refine wpAny_bind (seqEpoch_at ho1 rfl ?_)
  refine wpAny_bind (wpAny_newTuple ?_ (by show its.length ≤ _; exact hz2))
  refine wpAny_bind (wpAny_newList ?_ (Nat.zero_le _))
  refine wpAny_holding ?_
  have lk : ((s.heap.update A0 (Obj.mapSeq fun _ => (#[] : Array Value))).push (seqObj "tuple" its.toArray 0)).objs.size = (s.heap.update A0 (Obj.mapSeq fun _ => (#[] : Array Value))).objs.size + 1 := size_push' ..
  show wpAny (model X.prog X.w) X.A.in1.in1 (ksk_rest A0 (.ref f) false its.toArray e1 (.ref ((s.heap.update A0 (Obj.mapSeq fun _ => (#[] : Array Value))).push (seqObj "tuple" its.toArray 0)).objs.size)) _ _ { s with heap := ((s.heap.update A0 (Obj.mapSeq fun _ => (#[] : Array Value))).push (seqObj "tuple" its.toArray 0)).push (seqObj "list" #[] 0) }
  generalize hG : s.heap.update A0 (Obj.mapSeq fun _ => (#[] : Array Value)) = g2 at ho1 lA1 old2 lk hszU ⊢
  generalize hg3 : g2.push (seqObj "tuple" its.toArray 0) = g3 at lk ⊢
  have old3 : ∀ b o, g2.get? b = some o → g3.get? b = some o := fun b o e => by rw [← hg3]; exact Heap.get?_push_of_some _ e
  generalize hK : g3.objs.size = kS at lk ⊢
  have nk0 : (g3.push (seqObj "list" #[] 0)).get? kS = some (seqObj "list" #[] 0) := by rw [← hK]; exact Heap.get?_push_size _ rfl
  have old4 : ∀ b o, g2.get? b = some o → (g3.push (seqObj "list" #[] 0)).get? b = some o := fun b o e => Heap.get?_push_of_some _ (old3 b o e)
  have lAK : A0 < kS := by rw [lk]; exact Nat.lt_succ_of_lt lA1
  have hkA : kS ≠ A0 := Nat.ne_of_gt lAK
  generalize g3.push (seqObj "list" #[] 0) = g4 at nk0 old4 ⊢
  have I4 : Inv X pins σ H { s with heap := g4, toks := s.toks } := I.turnedL (ch := [A0]) (fun b o hb e => old4 b o (old2 b o hb e)) fun b hb => by rw [List.mem_singleton.mp hb]; exact pA H na
  have hsK : s.heap.objs.size ≤ kS := by rw [lk, hszU]; exact Nat.le_succ _
  have nk : H kS = none := I.hok.fresh hsK
  have Kfr := far_frs I hsK
  have pK : ∀ H', H' kS = none → FpOk X pins H' kS := fun H' h => I.fpOk hsK h
  have lf := Heap.lt_size hf
  have fK : f ≠ kS := Nat.ne_of_lt (Nat.lt_of_lt_of_le lf hsK)
  have hf4 : g4.get? f = some (PySem.W.kla_obj "<lambda>" (X.env.qual ++ "<lambda>") prs what sco (cloFrom X.env.cells sco.names []) md c' ctw) := old4 _ _ (old2 _ _ (by simp [fA]) hf)
  have na0 : g4.get? A0 = some (seqObj "list" #[] e1) := old4 _ _ ho1
  unfold ksk_rest
  refine wpAny_bind (wpAny_rule ?_)
  first
    | rw [List.forIn_toArray]
    | (rw [← Array.forIn_toList]; simp only [List.toList_toArray])
    | rw [← Array.forIn_toList]
  refine wpAny_bind (ksk_fold (fun i s' => ∃ H' kA e, Inv X pins σ H' s' ∧ W H' ∧ H' f = none ∧ H' A0 = none ∧ H' kS = none ∧ s'.heap.get? f = some (PySem.W.kla_obj "<lambda>" (X.env.qual ++ "<lambda>") prs what sco (cloFrom X.env.cells sco.names []) md c' ctw) ∧ s'.heap.get? kS = some (seqObj "list" kA e) ∧ s'.heap.get? A0 = some (seqObj "list" #[] e1) ∧ EachIs (fun v d => ∃ r, RelV r v ∧ Dq X.K H' r d) kA.toList (((List.range xs.length).map kd).take i)) its 0 _
    ⟨H, #[], 0, I4, w, nf, na, nk, hf4, nk0, na0, by rw [List.take_zero]; exact EachIs.nil⟩ ?step ?done)
  case step =>
    rintro j x s' hx ⟨H', kA, e, I', w', n1, n2, n3, f1, f2, f3, hk⟩
    simp only [Nat.zero_add] at hk ⊢
    have hj : j < its.length := (List.getElem?_eq_some_iff.mp hx).1
    obtain ⟨y, hy⟩ : ∃ y, xs[j]? = some y := ⟨_, List.getElem?_eq_getElem (by omega)⟩
    obtain ⟨uu, hu, ru⟩ := rv.get hy
    rw [hx] at hu
    cases hu
    have hz3 : kA.size ≤ its.length := by
      have h1 := hk.length
      rw [Array.length_toList, List.length_take, List.length_map, List.length_range] at h1
      omega
    refine wpAny_bind (wpAny_attempt (wpAny_mono (lam_callA (E := fun _ _ => False) (Q := fun r H'' => Dq X.K H'' r (kd j) ∧ W H'' ∧ Sam H' H'') I' M1 nd hip ru f1 (hW H' w') (hbind x) hr.in1.in1 I'.env0.in1.in1 hbody (kw.key j y H' hy w')) (fun v s2 hq => ?_) fun _ _ hF => hF.elim))
    obtain ⟨r, H2, I2, rr, ⟨dq, w2, sm⟩, un⟩ := hq
    have f1' := un.keep f _ f1 n1 ffr (by simp)
    have f2' := un.keep kS _ f2 n3 Kfr (by simp)
    have f3' := un.keep A0 _ f3 n2 Afr (by simp)
    have m1 := un.free f _ f1 n1 (by simp)
    have m2 := un.free A0 _ f3 n2 (by simp)
    have m3 := un.free kS _ f2 n3 (by simp)
    try dsimp only
    refine wpAny_bind (listUpdate_at f2' rfl ?_ (Nat.le_trans hz3 hz2) (Nat.le_trans (Nat.le_of_eq (Array.size_push ..)) (Nat.succ_le_succ (Nat.le_trans hz3 hz2))))
    obtain ⟨e2, up⟩ : ∃ e2, (s2.heap.update kS (Obj.mapSeq (·.push v))).get? kS = some (seqObj "list" (kA.push v) e2) := ⟨_, get?_update_seq f2' (·.push v)⟩
    have away : ∀ b o, b ∉ [kS] → s2.heap.get? b = some o → (s2.heap.update kS (Obj.mapSeq (·.push v))).get? b = some o := fun b o hb e => (Heap.get?_update_ne _ _ _ _ (fun z => hb (List.mem_singleton.mpr z))).trans e
    have I3 := I2.turnedL (t' := s2.toks) (ch := [kS]) away fun b hb => by rw [List.mem_singleton.mp hb]; exact pK H2 m3
    refine wpAny_pure ⟨rfl, H2, kA.push v, e2, I3, w2, m1, m2, m3, away f _ (by simp [fK]) f1', up, away A0 _ (by simp [hkA.symm]) f3', ?_⟩
    have tk1 : ((List.range xs.length).map kd).take (j + 1) = ((List.range xs.length).map kd).take j ++ [kd j] := by
      rw [List.take_add_one, List.getElem?_map, List.getElem?_range (by omega)]
      rfl
    have tk2 : (kA.push v).toList = kA.toList ++ [v] := by simp
    rw [tk1, tk2]
    exact each_snoc (R := fun v d => ∃ r, RelV r v ∧ Dq X.K H2 r d) ⟨r, rr, dq⟩ (hk.mono fun u d ⟨r, a1, a2⟩ => ⟨r, a1, Dq.up sm _ _ a2⟩)
  case done =>
    rintro s' ⟨H', kA, e, I', w', n1, n2, n3, f1, f2, f3, hk⟩
    have all : ((List.range xs.length).map kd).take (0 + its.length) = (List.range xs.length).map kd := List.take_of_length_le (by rw [List.length_map, List.length_range]; omega)
    rw [all] at hk
    have hk2 : EachIs (fun v d => ∃ as, Reads s'.heap v d as) kA.toList ((List.range xs.length).map kd) := by
      refine (each_mem hk).mono fun v d ⟨⟨r, a1, a2⟩, hd⟩ => ?_
      obtain ⟨i, mi, rfl⟩ := List.mem_map.mp hd
      exact Dp.reads I' _ _ _ (Dq.dp _ _ a2 (hcl i (List.mem_range.mp mi))) a1
    have sz : kA.size = its.length := by
      have h1 := hk2.length
      rw [Array.length_toList, List.length_map, List.length_range] at h1
      omega
    try dsimp only
    refine wpAny_bind (listItems_at f2 rfl ?_)
    obtain ⟨h₁, k0, k1⟩ : ∃ h₁ : Heap, h₁.get? kS = none ∧ ∀ b, b ≠ kS → h₁.get? b = s'.heap.get? b := by
      refine ⟨s'.heap.update kS (fun o => { o with data := .freed }), ?_, fun b hb => Heap.get?_update_ne _ _ _ _ hb⟩
      exact get_freed
    refine keyH_end (κ := dataKind s'.heap ((List.range xs.length).map kd)) (h₁ := h₁) (fun b o hb eb => ?_) k0 f2 f3 hkA (SortsAt.data hk2 hal hso fun d hd => ?_) sz hz2 fun h' tk c kp gA => ⟨rfl, ?_⟩
    · by_cases hb2 : b = kS
      · rw [hb2, k0] at eb; cases eb
      · rw [← k1 b hb2]; exact eb
    · obtain ⟨i, mi, rfl⟩ := List.mem_map.mp hd
      have := hdp i (List.mem_range.mp mi)
      have := hr.units
      show X.A.in1.in1.units + _ < cLine
      have e2 : X.A.in1.in1.units ≤ X.A.units + 2 := Nat.le_refl _
      omega
    · have away : ∀ b o, b ∉ [kS, A0] → s'.heap.get? b = some o → h'.get? b = some o := fun b o hb eb => by
        have b1 : b ≠ kS := fun z => hb (by simp [z])
        have b2 : b ≠ A0 := fun z => hb (by simp [z])
        exact kp b o b2 ((k1 b b1).trans eb)
      have I5 := I'.turnedL (t' := tk) (ch := [kS, A0]) away fun b hb => by
        rcases List.mem_cons.mp hb with z | z
        · rw [z]; exact pK H' n3
        · rw [List.mem_singleton.mp z]; exact pA H' n2
      have eo : EachIs (fun v i => ∃ x, xs[i]? = some x ∧ RelV x v) (sortVals (dataKind s'.heap ((List.range xs.length).map kd)) false kA.toList its) (sortO xs.length kd) := by
        refine keyedOut_each kd (vs := its) ⟨s'.heap, kA.toList, hal, rfl, hk2⟩ ?_
        have := vals_each (xs := xs) 0 rv fun i => by rw [Nat.zero_add]
        have e0 : ((List.range xs.length).map fun i => 0 + i) = List.range xs.length := by
          rw [show (fun i => 0 + i) = (id : Nat → Nat) from funext fun i => Nat.zero_add i, List.map_id]
        rw [e0] at this
        exact this
      have vo := each_vals eo
      have lo := vo.length
      have ls : ((sortO xs.length kd).map fun i => xs.getD i .non).length = xs.length := by
        unfold sortO
        rw [List.length_map, List.length_mergeSort, List.length_range]
      refine ⟨.ref A0, _, I5.take (t' := tk) (fun b o _ e => e) (pA H' n2) (o := .lst ((sortO xs.length kd).map fun i => xs.getD i .non)) ?_, rfl, q A0 H' w' n2 na⟩
      exact ⟨by rw [ls]; exact hz, _, c, vo, gA⟩
/-- range(e), its object laid just now -/
theorem rng_fresh {a : Expr} {ta : TE} {p pos : Pos} {Q : Int → Hp → Prop} (hg : Gl X "range") (hm : X.mg "range" = none) (ha : PE X a ta) (I : Inv X pins σ H s) (h : ta σ H fun x H1 => ∃ n, x = .int n ∧ Q n H1) (na : starEach [a] X.env = (false, eval a X.env) :: starEach [] X.env) :
    wpAny (model X.prog X.w) X.A (eval (.Call (.Name "range" p) [a] [] pos) X.env) (fun x s' => ∃ r n t u v H', x = .ref r ∧ IsRange s'.heap r 0 n 1 t u v ∧ Inv X pins σ H' s' ∧ FpOk X pins H' r ∧ Q n H') X.xe s := by
  refine Call_ (ld_blt I hg hm boot_range (PyProof.Rows.callWith_type1 (one_arg ha I h (fun v s2 x H2 I2 r q => ?_) na) na))
  obtain ⟨n, rfl, q⟩ := q
  obtain ⟨t, rfl⟩ := r
  exact call_range_1 ⟨_, n, _, _, _, H2, rfl, IsRange.new _ _ _ _ _ _ _, I2.kept fun b u e => Heap.get?_push_of_some _ e, I2.fpOk (Nat.le_refl _) (I2.hok.fresh (Nat.le_refl _)), q⟩
def tSortKR [TabEnv] (K : PySem.W.Frag) (pi : Nat) (ta tk : TE) : TE := fun σ H Q => ta σ H fun x H1 => ∃ n : Int, x = .int n ∧ TabsG H1 ∧ RgOk 0 n ∧ ∀ H2, Sam H1 H2 → TabsG H2 → ∃ (kd : Nat → PyData) (W : Hp → Prop), (∀ H', W H' → Sam H2 H') ∧ W H2 ∧ KeyS K tk pi σ (rgV 0 n) kd W ∧
  AllAlike ((List.range (rgV 0 n).length).map kd) ∧ Sortable ((List.range (rgV 0 n).length).map kd) ∧ (∀ i, i < (rgV 0 n).length → (kd i).depth ≤ 40) ∧ (∀ i, i < (rgV 0 n).length → (kd i).canLay0 = true) ∧
  ∀ p H', W H' → H' p = none → H2 p = none → Q (.ref p) (upd H' p (.lst ((sortO (rgV 0 n).length kd).map fun i => (rgV 0 n).getD i .non)))
section
variable [G : TabEnv] {e : Expr} {ta tk : TE} {c P : Addr} {prs : Arguments} {what : Expr} {sco : Scope} {p p2 pos pos2 lpos kpos : Pos} {k pi : Nat} {a : Str}
theorem pe_sortKR (hg : Gl X "sorted") (hm : X.mg "sorted" = none) (hgr : Gl X "range") (hmr : X.mg "range" = none) (he : PE X e ta) (TB : TabB X.base X.mg c P) (hcode : X.env.code = .ref c) (hmT : (P, X.env.qual ++ "<lambda>") ∈ G.T) (M1 : LamOne a X.env.scope sco) (nd : X.N.Nodup) (hip : X.N[pi]? = some a) (hr : Room (k + 3) X.A)
    (hbind : ∀ (md ctw u : Value) (c' : Addr), bindArgs (PySem.W.kla_fn "<lambda>" (X.env.qual ++ "<lambda>") prs what sco (cloFrom X.env.cells sco.names []) md (.ref c') ctw) ⟨[u], []⟩ = pure [(a, u)])
    (hbody : ∀ (A : Around) (out : List Env) (s : Shared) (H : Hp) (f c' : Addr), Room k (A.deeper (lamEnv X sco s.heap.objs.size f c')) → PE (lamCtx X A out s H sco f c') what tk) (hdef : defaultsOf prs X.env = ([], []) := by rfl)
    (na : starEach [e] X.env = (false, eval e X.env) :: starEach [] X.env := by rfl)
    (hst : backTo pos (starEach [.Call (.Name "range" p2) [e] [] pos2] X.env) = (false, eval (.Call (.Name "range" p2) [e] [] pos2) X.env) :: backTo pos (starEach [] X.env) := by rfl) :
    PE X (.Call (.Name "sorted" p) [.Call (.Name "range" p2) [e] [] pos2] [⟨some "key", .Lambda prs what sco lpos, kpos⟩] pos) (tSortKR X.K pi ta tk) := by
  refine ⟨fun pins s σ H Q I h => ?_⟩
  refine wpAny_Call_Name_kw (ld_blt I hg hm (by rfl) ?_)
  refine PyProof.Rows.callWith_kw ?_ hst (by rw [hst]; rfl)
  rw [hst]
  refine Calls.spliced_cons (thn (rng_fresh hgr hmr he I h na) fun u s1 ⟨r, n, t1, t2, t3, H1, ev, ir, I1, fp, q⟩ => Calls.spliced_nil ?_)
  obtain ⟨tb, ok, q⟩ := q
  subst ev
  have Ip : Inv X (pins ++ [(r, { cls := .type "range", dict := none, data := .fields #[.int 0 t1, .int n t2, .int 1 t3], slots := #[] })]) σ H1 s1 := I1.pins_of fun y hy => by
    rcases List.mem_append.mp hy with z | z
    · exact I1.pin y (List.mem_append_right _ z)
    · rw [List.mem_singleton.mp z]
      exact ⟨ir, fp.1, fp.2.1, fp.2.2.1, fun v z => by cases z⟩
  refine wpAny_evalAll_cons (wpAny_bind (lam_mk Ip tb TB hcode hmT hdef (M1.has I1.ok) fun f c' md ctw H2 s2 Ip2 sam tb2 hf nf ffr hco => wpAny_bind (wpAny_standAt (wpAny_pure (wpAny_evalAll_nil ?_)))))
  have ir2 : IsRange s2.heap r 0 n 1 t1 t2 t3 := (Ip2.pin (r, _) (List.mem_append_right _ (List.mem_append_right _ (List.mem_singleton.mpr rfl)))).1
  have I2 := Ip2.unpinned
  obtain ⟨kd, W, hW, w, kw, b1, b2, b3, b4, fin⟩ := q H2 sam tb2
  obtain ⟨o1, o2, o3, o4, o5⟩ := ok
  show wpAny (model X.prog X.w) X.A (call (.builtin "sorted") [.ref r] [(Str.ofString "key", .ref f)]) _ _ _
  refine call_function_entry_kw kind_sorted plain_sorted entry_sorted (ksk_s1 _ _) ?_
  unfold Builtin.«sorted»
  have hd : X.A.in1.handled = none := hr.in1.hd
  refine wpAny_bind (m := checkCount "sorted" 1 1 _) (wpAny_pure (wpAny_bind (collect_range (n := (n - 0).toNat) hd ir2 (small_one o1 o2 o3 o4) (rangeSize_nat 0 n) o5 fun h' tk acc hk hi => ?_)))
  have rv : Vals (rgV 0 n) acc.toList := vals_rg hi
  have lr := rgV_length 0 n
  have hz : (rgV 0 n).length ≤ sizeLine := by rw [lr, sizeLine_eq]; omega
  have la := rv.length
  refine wpAny_bind (wpAny_newList ?_ (by omega))
  have Ik : Inv X pins σ H2 { s2 with heap := h', toks := tk } := I2.kept hk
  have I3 : Inv X pins σ H2 { s2 with heap := h'.push { cls := .type "list", data := .seq acc.toList.toArray }, toks := tk } := Ik.kept (t' := tk) fun b o e => Heap.get?_push_of_some _ e
  have ho : (h'.push { cls := .type "list", data := .seq acc.toList.toArray }).get? h'.objs.size = some (seqObj "list" acc.toList.toArray 0) := Heap.get?_push_size _ rfl
  have lf : f < h'.objs.size := Heap.lt_size (hk f _ hf)
  refine wpAny_bind (wpAny_holding (wpAny_call_entry_kw slot_list_sort ⟨_, ho, rfl⟩ entry_list_sort ?_ (ksk_l1 _ _)))
  rw [ksk_t1]
  refine wpAny_mono (sort_core (E' := X.xe) (n0 := 0) I3 M1 nd hip (hbind md ctw · c') hr (fun A out s H => hbody A out s H f c') kw (fun H' w => (hW H' w).at hco codeO_tbl) w rv hz ho (Ik.hok.fresh (Nat.le_refl _)) (fun H' h => Ik.fpOk (Nat.le_refl _) h) (far_frs Ik (Nat.le_refl _)) (Nat.ne_of_lt lf) ffr nf (Heap.get?_push_of_some _ (hk f _ hf)) b1 b2 b3 b4 fin) (fun r' s' hq => ?_) fun _ _ z => ?_
  · obtain ⟨rfl, hq⟩ := hq
    exact ⟨_, rfl, wpAny_pure ⟨_, rfl, hq⟩⟩
  · exact z
end
end
end LamK
namespace DX
open PySem L2 LamK PySem.W
variable [TabEnv]
section
variable {K : PySem.W.Frag} {δ : List SV} {ta tb te tk : TE} {ds xs : List D} {m pi : Nat}
/-- sorted(range(n), key=..): the numbers stand by their keys, stably -/
theorem en_sortKR {n : Nat} (hx : ED K ta δ (.int (n : Int))) (hn : n ≤ 16777216) (kd : Nat → D) (hk : ∀ i, i < n → ED K tk (δ.set pi (.val (.int (i : Nat)))) (kd i)) (b1 : AllAlike ((List.range n).map kd)) (b2 : Sortable ((List.range n).map kd)) (b3 : ∀ i, i < n → (kd i).depth ≤ 40) (b4 : ∀ i, i < n → (kd i).canLay0 = true) :
    EN K (tSortKR K pi ta tk) δ ((sortO n kd).map fun i => PyData.int (i : Nat)) := fun B0 H0 B H σ Q S q =>
  hx B0 H0 B H σ _ S fun v B1 H1 s1 dv => by
    cases Dq.int_inv dv
    have el : (rgV 0 (n : Int)).length = n := by rw [rgV_length]; omega
    refine ⟨n, rfl, s1.bh.tb, RgOk.of_le (by omega) (by omega) (by omega) (by omega), fun H2 sam tb => ?_⟩
    have st := Stp.tabs s1.bh sam tb
    have sq := (S.step s1).step st
    have at_ : ∀ i, i < n → (rgV 0 (n : Int))[i]? = some (.int (i : Nat)) := fun i hi => by
      unfold rgV
      rw [List.getElem?_map, List.getElem?_range (by omega)]
      show some (V.int (0 + (i : Int))) = _
      rw [Int.zero_add]
    refine ⟨kd, fun H' => ∃ B', Stp B1 H2 B' H', fun H' ⟨B', s⟩ => s.hh, ⟨B1, .refl st.bh⟩, ⟨fun i v H' hi ⟨B', s⟩ => ?_⟩, by rw [el]; exact b1, by rw [el]; exact b2, fun i hi => b3 i (by rw [← el]; exact hi), fun i hi => b4 i (by rw [← el]; exact hi), fun p H' ⟨B', s⟩ np n2 => ?_⟩
    · have hi2 : i < n := by
        have := (List.getElem?_eq_some_iff.mp hi).1
        omega
      rw [at_ i hi2] at hi
      cases hi
      refine hk i hi2 B0 H0 B' H' _ _ ((sq.step s).setVal (.int _)) fun r B'' H'' s2 dr => ?_
      exact ⟨Dq.up s2.bh _ _ dr, ⟨B'', s.trans s2⟩, s2.hh⟩
    · have fin := (s1.trans st).trans s
      rw [el]
      refine q p _ B' _ (fin.trans (.newOwn s.bh np)) (fin.hh.free np) (s.bh.free np) upd_same ?_
      have : ∀ l : List Nat, (∀ i ∈ l, i < n) → DqAll K B' (l.map fun i => (rgV 0 (n : Int)).getD i .non) (l.map fun i => PyData.int (i : Nat)) := fun l => by
        induction l with
        | nil => exact fun _ => .nil
        | cons i l ih =>
          intro h
          refine .cons ?_ (ih fun j m => h j (List.mem_cons_of_mem _ m))
          show Dq K B' ((rgV 0 (n : Int)).getD i .non) (.int (i : Nat))
          rw [List.getD_eq_getElem?_getD, at_ i (h i (List.mem_cons_self ..))]
          exact .int _
      refine this _ fun i hi => ?_
      unfold sortO at hi
      exact List.mem_range.mp (List.mem_mergeSort.mp hi)
end
end DX

namespace DX
open PySem L2 LamK
section
theorem kx_sortedT {X : Cx} {K : PySem.W.Frag} {P : Program} {w : World} (hK : X.K = K := by rfl) (hP : X.prog = P := by rfl) (hw : X.w = w := by rfl) (hc : X.calm = true := by rfl) : CallR X (.builtin "sorted") (rSortedT K P w) := by
  subst hK; subst hP; subst hw; exact cr_sortedT hc
end
variable [TabEnv]
section
variable {P : Program} {w : World} {K : PySem.W.Frag} {δ : List SV} {te : TE}
theorem dq_refs {B : Hp} : ∀ {L : List (Addr × List Int)}, (∀ p ∈ L, SqT K B p.1 (p.2.map V.int)) → DqAll K B (L.map fun q => V.ref q.1) ((L.map (·.2)).map tupI)
  | [], _ => .nil
  | q :: L, h => .cons (.tup (h q (List.mem_cons_self ..)) DqAll.ofInts) (dq_refs fun p m => h p (List.mem_cons_of_mem _ m))
/-- sorted(set(tuples of two ints)) -/
theorem ep_sortedT {yss : List (List Int)} (h : ED K te δ (.list (yss.map tupI))) (hl : yss.length < 64) (hb : ∀ ys ∈ yss, ys.length = 2 ∧ TS.Bd 64 ys) :
    EP K (tCB (rSortedT K P w) (tCons (tCB (rSetOfT K P w) (tCons te tNil)) tNil)) δ (fun d => ∃ zss : List (List Int), d = .list (zss.map tupI) ∧ zss.Nodup ∧ (∀ z, z ∈ zss ↔ z ∈ yss) ∧ zss.Pairwise fun a b => TS.code 64 a ≤ TS.code 64 b) := fun B0 H0 B H σ Q S q =>
  h B0 H0 B H σ _ S fun v B1 H1 s1 a => by
    cases a with
    | @lst p vs _ hs hA =>
      obtain ⟨ks, rfl, e2, e3⟩ := tups_of hA
      refine ⟨p, ks, rfl, s1.bh.seq hs, fun p mp => sqT_up s1.bh (e3 p mp), by rw [← e2, List.length_map] at hl; exact hl, fun z L hz h1 h2 => ?_⟩
      have s2 : Stp B1 H1 B1 (upd H1 z (SetTO P w z L)) := .newOwn s1.bh hz
      have inL : ∀ p ∈ L, p.2 ∈ yss := fun p mp => by
        rw [← e2]
        exact List.mem_map.mpr ⟨p, h1 p mp, rfl⟩
      refine ⟨z, L, 2, 64, rfl, upd_same, fun p mp => sqT_up s2.hh (sqT_up s1.bh (e3 p (h1 p mp))), by decide, fun p mp => hb _ (inL p mp), fun L' p pm nd hf pw np => ?_⟩
      have s3 : Stp B1 (upd H1 z (SetTO P w z L)) (upd B1 p (.lst (L'.map fun q => V.ref q.1))) _ := .new s2.bh np
      refine q _ _ _ _ ((s1.trans s2).trans s3) (.lst (.inl (.inl upd_same)) (dq_refs fun q mq => sqT_up s3.bb (e3 q (h1 q (pm.subset mq))))) ⟨L'.map (·.2), rfl, nd, fun y => ⟨fun m => ?_, fun m => ?_⟩, List.pairwise_map.mpr pw⟩
      · obtain ⟨r, mr, rfl⟩ := List.mem_map.mp m
        exact inL r (pm.subset mr)
      · rw [← e2] at m
        obtain ⟨r, mr, rfl⟩ := List.mem_map.mp m
        obtain ⟨r', mr', e⟩ := List.mem_map.mp (h2 r mr)
        exact List.mem_map.mpr ⟨r', pm.symm.subset mr', e⟩
end
end DX

namespace DX
open PySem L2 LamK PySem.Spec PyProof.Rows
/-- a dict of the module's top with text keys: what it says -/
structure KDic (K : PySem.W.Frag) (w : World) (a : Addr) (l : List (Str × Int)) : Prop where
  ex : ∃ es n, KDict K w a es n
  get : ∀ kv ∈ l, ∃ t, PySem.W.nsIn K a kv.1 = some (some (.int kv.2 t))
def tKGet1 (K : PySem.W.Frag) (w : World) (td ty : TE) : TE := fun σ H Q => td σ H fun x H1 => ∃ a l, x = .ref a ∧ KDic K w a l ∧ ty σ H1 fun y H2 => ∃ kv, kv ∈ l ∧ y = .str kv.1 ∧ Q (.int kv.2) H2
section
variable {X : Cx} {K : PySem.W.Frag} {w : World} {o e : Expr} {apos cpos : Pos} {td ty : TE}
theorem pe_kget1 (ho : PE X o td) (he : PE X e ty) (m : M1 X o "get" apos e cpos) (hK : X.K = K := by rfl) (hw : X.w = w := by rfl) : PE X (.Call (.Attribute o "get" apos) [e] [] cpos) (tKGet1 K w td ty) := by
  subst hK; subst hw
  refine ⟨fun pins s σ H Q I h => ?_⟩
  refine wpAny_Call_method m.base m.few m.line PySem.F.plainAttrs_dict PySem.F.slot_dict_get PySem.F.type_dict_get (thn (ho.run pins s σ H _ I h) fun u s1 ⟨x, H1, I1, rx, a, l, ex, kd, q1⟩ => ?_)
  subst ex
  obtain rfl : u = Value.ref a := rx
  obtain ⟨es, n, D⟩ := kd.ex
  have hm := PySem.W.mapOf_K (prog := X.prog) (w := X.w) I1.kIn D.at_ D.lit
  refine ⟨hm.typeIs, fun b q => by cases q; exact ⟨_, I1.kIn _ _ D.at_, rfl⟩, ?_⟩
  rw [m.trees]
  refine Calls.callWith_builtin rfl (Calls.evalArgs_plain (Calls.spliced_cons (thn (he.run pins s1 σ H1 _ I1 q1) fun iv s2 ⟨y, H2, I2, ry, kv, mk, ey, q2⟩ => Calls.spliced_nil ?_)))
  subst ey
  obtain ⟨t, rfl⟩ := ry
  obtain ⟨t', e'⟩ := kd.get kv mk
  have hm2 := PySem.W.mapOf_K (prog := X.prog) (w := X.w) I2.kIn D.at_ D.lit
  refine call_meetsIn PySem.F.slot_dict_get hm2.typeIs PySem.F.entry_dict_get (PySem.F.args_dict_get_2 _ _) (meets_dict_get (strKind X.prog X.w) a (strKind_is X.prog X.w kv.1 t) D.low) ⟨_, hm2, ?_⟩
  show wants _ _ (.ok (.ret ((findBy Value.isStrOf es kv.1).getD .none))) _
  rw [PySem.W.find_K D.at_ e']
  exact ⟨.int kv.2, H2, I2.tok _, ⟨t', rfl⟩, q2⟩
end
variable [TabEnv]
section
variable {K : PySem.W.Frag} {w : World} {δ : List SV} {ty : TE}
theorem ed_kget1 {a : Addr} {l : List (Str × Int)} {z : Str} {i : Int} (kd : KDic K w a l) (m : (z, i) ∈ l) (h : ED K ty δ (.str z)) : ED K (tKGet1 K w (tC (.ref a)) ty) δ (.int i) := fun B0 H0 B H σ Q S q =>
  ⟨a, l, rfl, kd, h B0 H0 B H σ _ S fun v B1 H1 s1 dv => by
    cases dv
    exact ⟨(z, i), m, rfl, q _ B1 H1 s1 (.int i)⟩⟩
end
end DX

namespace DX
open PySem L2 PySem.Spec PyProof.Rows
section
theorem kpe_notT {X : Cx} {K : PySem.W.Frag} {a : Expr} {ta : TE} {pos : Pos} (ha : PE X a ta) (hK : X.K = K := by rfl) : PE X (.UnaryOp .Not a pos) (tNotT K ta) := by subst hK; exact pe_notT ha
def rInT (K : PySem.W.Frag) : R2 := fun x y H Q => ∃ d ds, Dp K H x d ∧ Dp K H y (.tuple ds) ∧ SeqAt.shaped d = true ∧ SeqAt.shaped (.tuple ds) = true ∧ Q (.bl (ds.any fun z => PyData.eqv z d)) H
theorem kx_inT {X : Cx} {K : PySem.W.Frag} (hu : X.A.units + 65 < cLine) (hK : X.K = K := by rfl) : OpR X (compareOp .In) (rInT K) := by
  subst hK
  intro pins s σ H x y v u Q I rx ry ⟨d, ds, hd, he, sd, se, q⟩
  obtain ⟨ps, r1⟩ := Dp.reads I d x v hd rx
  obtain ⟨qs, r2⟩ := Dp.reads I (.tuple ds) y u he ry
  exact SeqAt.in_tuple_reads r2 r1 (SeqAt.canLay_of_shaped se) (SeqAt.canLay_of_shaped sd) (room_in_shaped sd hu) ⟨.bl _, H, I, rfl, q⟩
end
variable [TabEnv]
theorem ed_inT {K : PySem.W.Frag} {δ : List SV} {ta tb : TE} {d : D} {ds : List D} (ha : ED K ta δ d) (hb : ED K tb δ (.tuple ds)) (sd : SeqAt.shaped d = true) (sl : SeqAt.shaped (.tuple ds) = true) : ED K (tOp (rInT K) ta tb) δ (.bool (ds.any fun z => PyData.eqv z d)) := fun B0 H0 B H σ Q S q =>
  ha B0 H0 B H σ _ S fun v B1 H1 s1 a => hb B0 H0 B1 H1 σ _ (S.step s1) fun w B2 H2 s2 b =>
    ⟨d, ds, Dq.dp _ _ (Dq.up (s2.bb.trans s2.bh.sm) _ _ a) (SeqAt.canLay_of_shaped sd), Dq.dp _ _ (Dq.up s2.bh.sm _ _ b) (SeqAt.canLay_of_shaped sl), sd, sl, q _ B2 H2 (s1.trans s2) (.bl _)⟩
/-- not x as a value, by truth -/
theorem ed_notT {K : PySem.W.Frag} {δ : List SV} {ta : TE} {d : D} {b : Bool} (h : ED K ta δ d) (e : truD d = some b) : ED K (tNotT K ta) δ (.bool (!b)) := fun B0 H0 B H σ Q S q =>
  et_truth h e B0 H0 B H σ (fun k H1 => Q (.bl (!k)) H1) S fun B' H' s => q _ B' H' s (.bl _)
end DX

namespace DX
open PySem L2 PySem.Spec PyProof.Rows
def rLenSA (w : World) : List V → Hp → VK → Prop := fun xs H Q => ∃ (a : Addr) (S : Int → Bool) (n : Nat), xs = [.ref a] ∧ H a = some (SetO w a S n) ∧ ∀ ks : List Int, ks.Nodup → (∀ k, S k = true ↔ k ∈ ks) → ks.length = n → Q (.int (n : Nat)) H
theorem kx_lenSA {X : Cx} {w : World} (hw : X.w = w := by rfl) : CallR X (.builtin "len") (rLenSA w) := by
  subst hw
  intro pins s σ H xs us Q I r h
  obtain ⟨a, S, n, rfl, ha, q⟩ := h
  rw [Vals.ref1 r]
  obtain ⟨o, es, ep, t, ho, hx, hd, g, nd, hm, hb, hf, hn, _⟩ := setO_get I ha
  have hb2 : (es.size : Int) < 2 ^ 63 := by
    unfold scanBound at hb
    omega
  exact call_len_set ho hx hd hf hb2 ⟨.int (n : Nat), H, I.tok _, ⟨_, by rw [hn]⟩, q _ nd hm (by rw [List.length_map, Array.length_toList, hn])⟩
variable [TabEnv]
theorem ed_lenSA {K : PySem.W.Frag} {w : World} {δ : List SV} {te : TE} {x : D} {ns : List Int} (h : ED K te δ x) (hx : itemsD x = some (ns.map PyData.int)) (hl : ns.length ≤ 60) :
    ED K (tCB (rLenSA w) (tCons (tCB (rSetA K w) (tCons te tNil)) tNil)) δ (.int ((ddL ns).length : Nat)) := fun B0 H0 B H σ Q S q =>
  h B0 H0 B H σ _ S fun v B1 H1 s1 a => by
    have hq : ∃ p, v = .ref p ∧ (SqL K H1 p (ns.map V.int) ∨ SqT K H1 p (ns.map V.int)) := by
      cases a with
      | lst hs hA => cases hx; cases hA.ints; exact ⟨_, rfl, .inl (s1.bh.seq hs)⟩
      | tup hs hA => cases hx; cases hA.ints; exact ⟨_, rfl, .inr (sqT_up s1.bh hs)⟩
      | _ => cases hx
    obtain ⟨p, rfl, hq⟩ := hq
    refine ⟨_, ns, rfl, hq, by omega, fun z c hz hc => ⟨z, _, c, rfl, upd_same, fun ks nd hm hlen => ?_⟩⟩
    have s2 : Stp B1 H1 B1 (upd H1 z (SetO w z (fun j => decide (j ∈ ns)) c)) := .newOwn s1.bh hz
    have e : c = (ddL ns).length := by
      rw [← hlen]
      exact ddL_uni (b := ns) nd fun k => by rw [← hm k, decide_eq_true_iff]
    exact q (V.int ((c : Nat) : Int)) B1 _ (s1.trans s2) (by rw [← e]; exact .int _)
end DX

namespace Peb
/-! independent pairs and pebbles -/
abbrev Pr := Nat × Nat
def sumR (n : Nat) (f : Nat → Nat) : Nat := ((List.range n).map f).sum
theorem sumR_succ (n : Nat) (f : Nat → Nat) : sumR (n + 1) f = sumR n f + f n := by
  unfold sumR
  rw [List.range_succ, List.map_append, List.sum_append]
  simp
theorem sumR_congr {n : Nat} {f g : Nat → Nat} (h : ∀ v, v < n → f v = g v) : sumR n f = sumR n g := by
  induction n with
  | zero => rfl
  | succ n ih => rw [sumR_succ, sumR_succ, ih fun v hv => h v (by omega), h n (by omega)]
theorem sumR_le {n : Nat} {f g : Nat → Nat} (h : ∀ v, v < n → f v ≤ g v) : sumR n f ≤ sumR n g := by
  induction n with
  | zero => exact Nat.le_refl _
  | succ n ih =>
    rw [sumR_succ, sumR_succ]
    have := ih fun v hv => h v (by omega)
    have := h n (by omega)
    omega
theorem sumR_add {n : Nat} {f g : Nat → Nat} : sumR n (fun v => f v + g v) = sumR n f + sumR n g := by
  induction n with
  | zero => rfl
  | succ n ih => rw [sumR_succ, sumR_succ, sumR_succ, ih]; omega
/-- two summations that differ at one place -/
theorem sumR_at {n i : Nat} {f g : Nat → Nat} (hi : i < n) (h : ∀ v, v < n → v ≠ i → f v = g v) : sumR n f + g i = sumR n g + f i := by
  induction n with
  | zero => omega
  | succ n ih =>
    rw [sumR_succ, sumR_succ]
    by_cases e : i = n
    · subst e
      rw [sumR_congr fun v hv => h v (by omega) (by omega)]
      omega
    · have := ih (by omega) fun v hv hne => h v (by omega) hne
      rw [h n (by omega) (by omega)]
      omega
theorem sumR_ge1 {n i : Nat} {f : Nat → Nat} (hi : i < n) : f i ≤ sumR n f := by
  induction n with
  | zero => omega
  | succ n ih =>
    rw [sumR_succ]
    by_cases e : i = n
    · subst e; omega
    · have := ih (by omega); omega
theorem sumR_ge2 {n i j : Nat} {f : Nat → Nat} (hi : i < n) (hj : j < n) (hij : i ≠ j) : f i + f j ≤ sumR n f := by
  induction n with
  | zero => omega
  | succ n ih =>
    rw [sumR_succ]
    by_cases e : i = n
    · subst e
      have := sumR_ge1 (f := f) (show j < i by omega)
      omega
    · by_cases e2 : j = n
      · subst e2
        have := sumR_ge1 (f := f) (show i < j by omega)
        omega
      · have := ih (by omega) (by omega); omega
theorem sumR_zero {n : Nat} : sumR n (fun _ => 0) = 0 := by
  induction n with
  | zero => rfl
  | succ n ih => rw [sumR_succ, ih]
def cnt (n : Nat) (S : Nat → Bool) : Nat := sumR n fun v => if S v then 1 else 0
def insP (S : Nat → Bool) (tk : List Pr) : Nat := (tk.filter fun p => S p.1 && S p.2).length
def insH (n : Nat) (S : Nat → Bool) (hs : List (List Nat)) : Nat := sumR n fun v => if S v then ((hs.getD v []).filter S).length else 0
def Ind (n : Nat) (tk : List Pr) : Prop := ∀ S : Nat → Bool, 2 ≤ cnt n S → insP S tk + 3 ≤ 2 * cnt n S
theorem insP_app (S : Nat → Bool) (a b : List Pr) : insP S (a ++ b) = insP S a + insP S b := by
  unfold insP
  rw [List.filter_append, List.length_append]
theorem insP_one (S : Nat → Bool) (i j : Nat) : insP S [(i, j)] = if S i && S j then 1 else 0 := by
  unfold insP
  rw [List.filter_cons]
  split <;> simp_all
theorem Ind.sub {n : Nat} {a b : List Pr} (h : Ind n (a ++ b)) : Ind n a := fun S hS => by
  have := h S hS
  rw [insP_app] at this
  omega
theorem Ind.nil {n : Nat} : Ind n [] := fun S hS => by
  show 0 + 3 ≤ _
  omega
theorem getD_set {α : Type} {xs : List α} {i j : Nat} {x d : α} (hi : i < xs.length) : (xs.set i x).getD j d = if j = i then x else xs.getD j d := by
  rw [List.getD_eq_getElem?_getD, List.getD_eq_getElem?_getD]
  by_cases h : j = i
  · subst h
    rw [List.getElem?_set_self hi, if_pos rfl]; rfl
  · rw [List.getElem?_set_ne (fun z => h z.symm), if_neg h]
/-- c lacks one -/
structure InvX (n : Nat) (ps : List Nat) (hs : List (List Nat)) (tk : List Pr) (dg : Nat → Nat) : Prop where
  pl : ps.length = n
  hl : hs.length = n
  deg : ∀ v, v < n → ps.getD v 0 + (hs.getD v []).length = dg v
  rng : ∀ v h, h ∈ hs.getD v [] → h < n
  cnt : ∀ S, insH n S hs = insP S tk
abbrev Inv (n : Nat) (ps : List Nat) (hs : List (List Nat)) (tk : List Pr) : Prop := InvX n ps hs tk fun _ => 2
def lack (c : Nat) : Nat → Nat := fun v => if v = c then 1 else 2
/-- with k pebbles at S, few pairs are inside -/
theorem Inv.bound {n : Nat} {ps : List Nat} {hs : List (List Nat)} {tk : List Pr} (I : Inv n ps hs tk) (S : Nat → Bool) : insP S tk + sumR n (fun v => if S v then ps.getD v 0 else 0) ≤ 2 * cnt n S := by
  rw [← I.cnt S]
  unfold insH Peb.cnt
  rw [← sumR_add]
  have : 2 * sumR n (fun v => if S v then 1 else 0) = sumR n fun v => (if S v then 1 else 0) + (if S v then 1 else 0) := by rw [sumR_add]; omega
  rw [this]
  refine sumR_le fun v hv => ?_
  have hd := I.deg v hv
  have hf : ((hs.getD v []).filter S).length ≤ (hs.getD v []).length := List.length_filter_le _ _
  by_cases h : S v = true
  · rw [if_pos h, if_pos h, if_pos h]; omega
  · rw [if_neg h, if_neg h, if_neg h]; omega
theorem Inv.closed {n : Nat} {ps : List Nat} {hs : List (List Nat)} {tk : List Pr} (I : Inv n ps hs tk) (S : Nat → Bool) (hc : ∀ v h, S v = true → h ∈ hs.getD v [] → S h = true) : insP S tk + sumR n (fun v => if S v then ps.getD v 0 else 0) = 2 * cnt n S := by
  rw [← I.cnt S]
  unfold insH Peb.cnt
  rw [← sumR_add]
  have : 2 * sumR n (fun v => if S v then 1 else 0) = sumR n fun v => (if S v then 1 else 0) + (if S v then 1 else 0) := by rw [sumR_add]; omega
  rw [this]
  refine sumR_congr fun v hv => ?_
  have hd := I.deg v hv
  by_cases h : S v = true
  · rw [if_pos h, if_pos h, if_pos h, List.filter_eq_self.mpr (fun x hx => hc v x h hx)]; omega
  · rw [if_neg h, if_neg h, if_neg h]
theorem Inv.le2 {n : Nat} {ps : List Nat} {hs : List (List Nat)} {tk : List Pr} (I : Inv n ps hs tk) (v : Nat) : ps.getD v 0 ≤ 2 := by
  by_cases h : v < n
  · have := I.deg v h; omega
  · rw [List.getD_eq_getElem?_getD, List.getElem?_eq_none (by rw [I.pl]; omega)]
    exact Nat.zero_le _
theorem Inv.yes {n i j : Nat} {ps : List Nat} {hs : List (List Nat)} {tk : List Pr} (I : Inv n ps hs tk) (h : Ind n tk) (hi : i < n) (hj : j < n) (hij : i ≠ j) (h4 : 4 ≤ ps.getD i 0 + ps.getD j 0) : Ind n (tk ++ [(i, j)]) := fun S hS => by
  rw [insP_app, insP_one]
  by_cases hs : (S i && S j) = true
  · rw [if_pos hs]
    rw [Bool.and_eq_true] at hs
    have b := I.bound S
    have g := sumR_ge2 (f := fun v => if S v then ps.getD v 0 else 0) hi hj hij
    simp only [hs.1, hs.2, if_true] at g
    omega
  · rw [if_neg hs]
    exact h S hS
theorem cnt_two {n i j : Nat} {S : Nat → Bool} (hi : i < n) (hj : j < n) (hij : i ≠ j) (h1 : S i = true) (h2 : S j = true) : 2 ≤ cnt n S := by
  have := sumR_ge2 (f := fun v => if S v then 1 else 0) hi hj hij
  simp only [h1, h2, if_true] at this
  exact this
theorem sum_two {n i j : Nat} {f : Nat → Nat} (hi : i < n) (hj : j < n) (hij : i ≠ j) (h : ∀ v, v < n → v ≠ i → v ≠ j → f v = 0) : sumR n f = f i + f j := by
  have e1 := sumR_at (f := f) (g := fun v => if v = i then 0 else f v) hi fun v hv hne => by simp [hne]
  have e2 := sumR_at (f := fun v => if v = i then 0 else f v) (g := fun _ => 0) hj fun v hv hne => by
    by_cases z : v = i
    · simp [z]
    · simp only [if_neg z]; exact h v hv z hne
  rw [sumR_zero] at e2
  simp only [if_true] at e1
  have : (if j = i then 0 else f j) = f j := if_neg fun z => hij z.symm
  simp only [this] at e2
  omega
theorem Inv.no {n i j : Nat} {ps : List Nat} {hs : List (List Nat)} {tk : List Pr} (I : Inv n ps hs tk) (hi : i < n) (hj : j < n) (hij : i ≠ j) (S : Nat → Bool) (h1 : S i = true) (h2 : S j = true) (hc : ∀ v h, S v = true → h ∈ hs.getD v [] → S h = true)
    (h0 : ∀ v, S v = true → v ≠ i → v ≠ j → ps.getD v 0 = 0) (h3 : ps.getD i 0 + ps.getD j 0 < 4) : ¬ Ind n (tk ++ [(i, j)]) := fun hI => by
  have c2 := cnt_two hi hj hij h1 h2
  have := hI S c2
  rw [insP_app, insP_one, h1, h2] at this
  have e := I.closed S hc
  rw [sum_two hi hj hij fun v hv a b => by
    by_cases z : S v = true
    · rw [if_pos z]; exact h0 v z a b
    · exact if_neg z] at e
  simp only [h1, h2, if_true, Bool.and_self] at e this
  omega
/-- the edge from t to c is turned -/
theorem insH_turn {n t c : Nat} {hs : List (List Nat)} (hl : hs.length = n) (ht : t < n) (hc : c < n) (htc : t ≠ c) (hm : c ∈ hs.getD t []) (S : Nat → Bool) :
    insH n S ((hs.set t ((hs.getD t []).erase c)).set c (((hs.set t ((hs.getD t []).erase c)).getD c []) ++ [t])) = insH n S hs := by
  have l1 : t < hs.length := by omega
  have l2 : c < (hs.set t ((hs.getD t []).erase c)).length := by rw [List.length_set]; omega
  unfold insH
  have gc : (hs.set t ((hs.getD t []).erase c)).getD c [] = hs.getD c [] := by rw [getD_set l1, if_neg (fun z => htc z.symm)]
  rw [gc]
  have f1 : ∀ v, ((hs.set t ((hs.getD t []).erase c)).set c (hs.getD c [] ++ [t])).getD v [] = if v = c then hs.getD c [] ++ [t] else if v = t then (hs.getD t []).erase c else hs.getD v [] := fun v => by
    rw [getD_set l2, getD_set l1]
  simp only [f1]
  -- first t, then c
  have a1 := sumR_at (n := n) (i := t) (f := fun v => if S v then ((if v = t then (hs.getD t []).erase c else hs.getD v []).filter S).length else 0) (g := fun v => if S v then ((hs.getD v []).filter S).length else 0) ht fun v hv hne => by simp only [if_neg hne]
  have a2 := sumR_at (n := n) (i := c) (f := fun v => if S v then ((if v = c then hs.getD c [] ++ [t] else if v = t then (hs.getD t []).erase c else hs.getD v []).filter S).length else 0) (g := fun v => if S v then ((if v = t then (hs.getD t []).erase c else hs.getD v []).filter S).length else 0) hc fun v hv hne => by simp only [if_neg hne]
  simp only [if_true, if_neg (fun z => htc z.symm : ¬ c = t)] at a1 a2
  have fe : ((hs.getD t []).filter S).length = (((hs.getD t []).erase c).filter S).length + (if S c then 1 else 0) := by
    have hp : (hs.getD t []).Perm (c :: (hs.getD t []).erase c) := List.perm_cons_erase hm
    have := (hp.filter S).length_eq
    rw [this, List.filter_cons]
    by_cases z : S c = true
    · rw [if_pos z, if_pos z]; rfl
    · rw [if_neg z, if_neg z]; rfl
  have fa : ((hs.getD c [] ++ [t]).filter S).length = ((hs.getD c []).filter S).length + (if S t then 1 else 0) := by
    rw [List.filter_append, List.length_append, List.filter_cons]
    by_cases z : S t = true
    · rw [if_pos z, if_pos z]; rfl
    · rw [if_neg z, if_neg z]; rfl
  rw [fe] at a1
  rw [fa] at a2
  by_cases z1 : S t = true <;> by_cases z2 : S c = true <;> simp only [z1, z2, if_true, if_false, Bool.false_eq_true] at a1 a2 <;> omega
theorem InvX.turn {n t c : Nat} {ps : List Nat} {hs : List (List Nat)} {tk : List Pr} (I : InvX n ps hs tk (lack c)) (ht : t < n) (hc : c < n) (htc : t ≠ c) (hm : c ∈ hs.getD t []) :
    InvX n ps ((hs.set t ((hs.getD t []).erase c)).set c (((hs.set t ((hs.getD t []).erase c)).getD c []) ++ [t])) tk (lack t) := by
  have l1 : t < hs.length := by rw [I.hl]; exact ht
  have l2 : c < (hs.set t ((hs.getD t []).erase c)).length := by rw [List.length_set, I.hl]; exact hc
  have gc : (hs.set t ((hs.getD t []).erase c)).getD c [] = hs.getD c [] := by rw [getD_set l1, if_neg (fun z => htc z.symm)]
  have f1 : ∀ v, ((hs.set t ((hs.getD t []).erase c)).set c (((hs.set t ((hs.getD t []).erase c)).getD c []) ++ [t])).getD v [] = if v = c then hs.getD c [] ++ [t] else if v = t then (hs.getD t []).erase c else hs.getD v [] := fun v => by
    rw [getD_set l2, gc, getD_set l1]
  refine ⟨I.pl, by rw [List.length_set, List.length_set]; exact I.hl, fun v hv => ?_, fun v h hm2 => ?_, fun S => by rw [insH_turn I.hl ht hc htc hm S]; exact I.cnt S⟩
  · rw [f1 v]
    have hd := I.deg v hv
    unfold lack at hd ⊢
    by_cases e1 : v = c
    · subst e1
      rw [if_pos rfl] at hd ⊢
      rw [if_neg (fun z => htc z.symm), List.length_append]
      show _ + (_ + 1) = 2
      omega
    · rw [if_neg e1] at hd ⊢
      by_cases e2 : v = t
      · subst e2
        rw [if_pos rfl, if_pos rfl, List.length_erase_of_mem hm]
        have : 0 < (hs.getD v []).length := List.length_pos_of_mem hm
        omega
      · rw [if_neg e2, if_neg e2]; exact hd
  · rw [f1 v] at hm2
    split at hm2
    · rcases List.mem_append.mp hm2 with z | z
      · exact I.rng c h z
      · rw [List.mem_singleton.mp z]; exact ht
    · split at hm2
      · exact I.rng t h (List.mem_of_mem_erase hm2)
      · exact I.rng v h hm2
theorem InvX.start {n g : Nat} {ps : List Nat} {hs : List (List Nat)} {tk : List Pr} (I : Inv n ps hs tk) (hg : g < n) (h1 : 0 < ps.getD g 0) : InvX n (ps.set g (ps.getD g 0 - 1)) hs tk (lack g) := by
  refine ⟨by rw [List.length_set]; exact I.pl, I.hl, fun v hv => ?_, I.rng, I.cnt⟩
  rw [getD_set (by rw [I.pl]; exact hg)]
  have := I.deg v hv
  unfold lack
  by_cases e : v = g
  · subst e
    rw [if_pos rfl, if_pos rfl]; omega
  · rw [if_neg e, if_neg e]; exact this
theorem InvX.stop {n c : Nat} {ps : List Nat} {hs : List (List Nat)} {tk : List Pr} (I : InvX n ps hs tk (lack c)) (hc : c < n) : Inv n (ps.set c (ps.getD c 0 + 1)) hs tk := by
  refine ⟨by rw [List.length_set]; exact I.pl, I.hl, fun v hv => ?_, I.rng, I.cnt⟩
  rw [getD_set (by rw [I.pl]; exact hc)]
  have := I.deg v hv
  unfold lack at this
  by_cases e : v = c
  · subst e
    rw [if_pos rfl] at this ⊢; omega
  · rw [if_neg e] at this ⊢; exact this
theorem Inv.add {n i j : Nat} {ps : List Nat} {hs : List (List Nat)} {tk : List Pr} (I : Inv n ps hs tk) (hi : i < n) (hj : j < n) (h1 : 0 < ps.getD i 0) : Inv n (ps.set i (ps.getD i 0 - 1)) (hs.set i (hs.getD i [] ++ [j])) (tk ++ [(i, j)]) := by
  have l1 : i < hs.length := by rw [I.hl]; exact hi
  refine ⟨by rw [List.length_set]; exact I.pl, by rw [List.length_set]; exact I.hl, fun v hv => ?_, fun v h hm => ?_, fun S => ?_⟩
  · rw [getD_set (by rw [I.pl]; exact hi), getD_set l1]
    have := I.deg v hv
    by_cases e : v = i
    · subst e
      rw [if_pos rfl, if_pos rfl, List.length_append]
      show _ + (_ + 1) = 2
      omega
    · rw [if_neg e, if_neg e]; exact this
  · rw [getD_set l1] at hm
    split at hm
    · rcases List.mem_append.mp hm with z | z
      · exact I.rng i h z
      · rw [List.mem_singleton.mp z]; exact hj
    · exact I.rng v h hm
  · rw [insP_app, insP_one, ← I.cnt S]
    unfold insH
    have a := sumR_at (n := n) (i := i) (f := fun v => if S v then (((hs.set i (hs.getD i [] ++ [j])).getD v []).filter S).length else 0) (g := fun v => if S v then ((hs.getD v []).filter S).length else 0) hi fun v hv hne => by simp only [getD_set l1, if_neg hne]
    simp only [getD_set l1, if_true] at a
    have fa : ((hs.getD i [] ++ [j]).filter S).length = ((hs.getD i []).filter S).length + (if S j then 1 else 0) := by
      rw [List.filter_append, List.length_append, List.filter_cons]
      by_cases z : S j = true
      · rw [if_pos z, if_pos z]; rfl
      · rw [if_neg z, if_neg z]; rfl
    simp only [getD_set l1]
    rw [fa] at a
    by_cases z1 : S i = true <;> by_cases z2 : S j = true <;> simp only [z1, z2, if_true, if_false, Bool.false_eq_true, Bool.and_self, Bool.and_true, Bool.and_false] at a ⊢ <;> omega
theorem Inv.new (n : Nat) : Inv n (List.replicate n 2) (List.replicate n []) [] := by
  have g1 : ∀ v, v < n → (List.replicate n 2).getD v 0 = 2 := fun v hv => by
    rw [List.getD_eq_getElem?_getD, List.getElem?_replicate, if_pos hv]; rfl
  have g2 : ∀ v, (List.replicate n ([] : List Nat)).getD v [] = [] := fun v => by
    rw [List.getD_eq_getElem?_getD, List.getElem?_replicate]
    split <;> rfl
  refine ⟨by simp, by simp, fun v hv => by rw [g1 v hv, g2 v]; rfl, fun v h hm => (by rw [g2 v] at hm; cases hm), fun S => ?_⟩
  unfold insH
  simp only [g2]
  have : (fun v => if S v = true then (List.filter S []).length else 0) = fun _ => 0 := by
    funext v
    split <;> rfl
  rw [this, sumR_zero]
  rfl
/-- what is reached from joint, each with the one before it -/
structure Rch (n : Nat) (hs : List (List Nat)) (joint : Nat) (rest : List Pr) : Prop where
  nd : (joint :: rest.map Prod.fst).Nodup
  lt : ∀ k ∈ joint :: rest.map Prod.fst, k < n
  par : ∀ (i k t : Nat), rest[i]? = some (k, t) → t ∈ joint :: (rest.take i).map Prod.fst ∧ k ∈ hs.getD t []
def Rch.keys (joint : Nat) (rest : List Pr) : List Nat := joint :: rest.map Prod.fst
theorem nodup_len : ∀ (n : Nat) (l : List Nat), l.Nodup → (∀ x ∈ l, x < n) → l.length ≤ n
  | 0, l, _, h => by
    cases l with
    | nil => exact Nat.le_refl _
    | cons x l => exact absurd (h x (List.mem_cons_self ..)) (by omega)
  | n + 1, l, nd, h => by
    by_cases m : n ∈ l
    · have h1 := nodup_len n (l.erase n) (nd.erase n) fun x hx => by
        have hx2 := (List.Nodup.mem_erase_iff nd).mp hx
        have := h x hx2.2
        omega
      rw [List.length_erase_of_mem m] at h1
      omega
    · have := nodup_len n l nd fun x hx => by
        have := h x hx
        have : x ≠ n := fun e => m (e ▸ hx)
        omega
      omega
theorem Rch.len {n : Nat} {hs : List (List Nat)} {joint : Nat} {rest : List Pr} (h : Rch n hs joint rest) : rest.length + 1 ≤ n := by
  have := nodup_len n _ h.nd h.lt
  rw [List.length_cons, List.length_map] at this
  exact this
theorem Rch.add {n : Nat} {hs : List (List Nat)} {joint k t : Nat} {rest : List Pr} (h : Rch n hs joint rest) (hk : k < n) (hn : k ∉ joint :: rest.map Prod.fst) (ht : t ∈ joint :: rest.map Prod.fst) (hm : k ∈ hs.getD t []) : Rch n hs joint (rest ++ [(k, t)]) := by
  have e : joint :: (rest ++ [(k, t)]).map Prod.fst = (joint :: rest.map Prod.fst) ++ [k] := by rw [List.map_append]; rfl
  refine ⟨?_, fun x hx => ?_, fun i k' t' ei => ?_⟩
  · rw [e]
    exact List.nodup_append.mpr ⟨h.nd, by simp, fun a ma b mb z => hn (by rw [List.mem_singleton.mp mb] at z; exact z ▸ ma)⟩
  · rw [e] at hx
    rcases List.mem_append.mp hx with z | z
    · exact h.lt x z
    · rw [List.mem_singleton.mp z]; exact hk
  · by_cases hi : i < rest.length
    · rw [List.getElem?_append_left hi] at ei
      obtain ⟨a, b⟩ := h.par i k' t' ei
      rw [List.take_append_of_le_length (by omega)]
      exact ⟨a, b⟩
    · have hi2 : i < rest.length + 1 := by
        have := (List.getElem?_eq_some_iff.mp ei).1
        rw [List.length_append] at this
        exact this
      have : i = rest.length := by omega
      subst this
      rw [List.getElem?_append_right (by omega), Nat.sub_self] at ei
      have ei : (k, t) = (k', t') := Option.some.inj ei
      injection ei with e1 e2
      subst e1; subst e2
      rw [List.take_left']
      · exact ⟨ht, hm⟩
      · rfl
/-! ### taken one by one -/
noncomputable instance decInd (n : Nat) (tk : List Pr) : Decidable (Ind n tk) := Classical.propDecidable _
noncomputable def chM (n : Nat) (tk : List Pr) : List Pr → List Pr
  | [] => tk
  | p :: r => chM n (if Ind n (tk ++ [p]) then tk ++ [p] else tk) r
theorem chM_ind {n : Nat} : ∀ (r tk : List Pr), Ind n tk → Ind n (chM n tk r)
  | [], tk, h => h
  | p :: r, tk, h => by
    unfold chM
    refine chM_ind r _ ?_
    split
    · assumption
    · exact h
theorem chM_len {n : Nat} : ∀ (r tk : List Pr), (chM n tk r).length ≤ tk.length + r.length
  | [], tk => Nat.le_refl _
  | p :: r, tk => by
    unfold chM
    rw [List.length_cons]
    by_cases hp : Ind n (tk ++ [p])
    · rw [if_pos hp]
      have := chM_len (n := n) r (tk ++ [p])
      rw [List.length_append] at this
      simp only [List.length_singleton] at this
      omega
    · rw [if_neg hp]
      have := chM_len (n := n) r tk
      omega
theorem chM_all {n : Nat} : ∀ (r tk : List Pr), Ind n tk → ((chM n tk r).length = tk.length + r.length ↔ Ind n (tk ++ r))
  | [], tk, h => by
    rw [List.append_nil]
    exact ⟨fun _ => h, fun _ => rfl⟩
  | p :: r, tk, h => by
    unfold chM
    have e : tk ++ p :: r = (tk ++ [p]) ++ r := by simp
    by_cases hp : Ind n (tk ++ [p])
    · rw [if_pos hp, e, ← chM_all r (tk ++ [p]) hp, List.length_append]
      simp only [List.length_cons, List.length_nil]
      omega
    · rw [if_neg hp]
      refine ⟨fun z => ?_, fun z => absurd (Ind.sub (e ▸ z)) hp⟩
      have := chM_len (n := n) r tk
      rw [List.length_cons] at z
      omega
theorem chM_sub {n : Nat} : ∀ (r tk : List Pr) (p : Pr), p ∈ chM n tk r → p ∈ tk ∨ p ∈ r
  | [], tk, p, h => .inl h
  | q :: r, tk, p, h => by
    unfold chM at h
    rcases chM_sub r _ p h with z | z
    · split at z
      · rcases List.mem_append.mp z with z | z
        · exact .inl z
        · rw [List.mem_singleton.mp z]; exact .inr (List.mem_cons_self ..)
      · exact .inl z
    · exact .inr (List.mem_cons_of_mem _ z)
theorem chM_snoc {n : Nat} : ∀ (r tk : List Pr) (p : Pr), chM n tk (r ++ [p]) = if Ind n (chM n tk r ++ [p]) then chM n tk r ++ [p] else chM n tk r
  | [], tk, p => by
    show chM n tk [p] = _
    unfold chM chM
    rfl
  | q :: r, tk, p => by
    show chM n tk (q :: (r ++ [p])) = _
    rw [chM, chM_snoc r]
    rfl
end Peb

namespace Hen
open Peb
/-! buildings: the joint that came last -/
def at_ (k : Nat) (p : Pr) : Bool := p.1 == k || p.2 == k
def deg (k : Nat) (l : List Pr) : Nat := (l.filter (at_ k)).length
def off (k : Nat) (l : List Pr) : List Pr := l.filter fun p => !at_ k p
def b2n (b : Bool) : Nat := if b then 1 else 0
theorem insP_cons (S : Nat → Bool) (p : Pr) (l : List Pr) : insP S (p :: l) = b2n (S p.1 && S p.2) + insP S l := by
  unfold insP b2n
  rw [List.filter_cons]
  split
  · rw [List.length_cons]; omega
  · omega
theorem insP_nil (S : Nat → Bool) : insP S [] = 0 := rfl
theorem cnt_eq (n : Nat) (S : Nat → Bool) : cnt n S = sumR n fun v => b2n (S v) := rfl
/-- both, and either -/
theorem cnt_or (n : Nat) (S T : Nat → Bool) : cnt n (fun v => S v || T v) + cnt n (fun v => S v && T v) = cnt n S + cnt n T := by
  rw [cnt_eq, cnt_eq, cnt_eq, cnt_eq, ← sumR_add, ← sumR_add]
  refine sumR_congr fun v _ => ?_
  cases S v <;> cases T v <;> rfl
theorem insP_or (S T : Nat → Bool) : ∀ l : List Pr, insP S l + insP T l ≤ insP (fun v => S v || T v) l + insP (fun v => S v && T v) l
  | [] => Nat.le_refl _
  | p :: l => by
    have ih := insP_or S T l
    rw [insP_cons, insP_cons, insP_cons, insP_cons]
    have : b2n (S p.1 && S p.2) + b2n (T p.1 && T p.2) ≤ b2n ((S p.1 || T p.1) && (S p.2 || T p.2)) + b2n ((S p.1 && T p.1) && (S p.2 && T p.2)) := by
      cases S p.1 <;> cases S p.2 <;> cases T p.1 <;> cases T p.2 <;> decide
    omega
theorem insP_or3 (S T U : Nat → Bool) : ∀ l : List Pr, (∀ p ∈ l, ¬ (S p.1 = true ∧ S p.2 = true ∧ T p.1 = true ∧ T p.2 = true) ∧ ¬ (S p.1 = true ∧ S p.2 = true ∧ U p.1 = true ∧ U p.2 = true) ∧ ¬ (T p.1 = true ∧ T p.2 = true ∧ U p.1 = true ∧ U p.2 = true)) →
    insP S l + insP T l + insP U l ≤ insP (fun v => S v || T v || U v) l
  | [], _ => Nat.le_refl _
  | p :: l, h => by
    have ih := insP_or3 S T U l fun q mq => h q (List.mem_cons_of_mem _ mq)
    rw [insP_cons, insP_cons, insP_cons, insP_cons]
    obtain ⟨h1, h2, h3⟩ := h p (List.mem_cons_self ..)
    have : b2n (S p.1 && S p.2) + b2n (T p.1 && T p.2) + b2n (U p.1 && U p.2) ≤ b2n ((S p.1 || T p.1 || U p.1) && (S p.2 || T p.2 || U p.2)) := by
      cases e1 : S p.1 <;> cases e2 : S p.2 <;> cases e3 : T p.1 <;> cases e4 : T p.2 <;> cases e5 : U p.1 <;> cases e6 : U p.2 <;> first | decide | (exfalso; simp_all)
    omega
theorem sumR_one {n a : Nat} (ha : a < n) : sumR n (fun v => b2n (decide (v = a))) = 1 := by
  have := sumR_at (n := n) (i := a) (f := fun v => b2n (decide (v = a))) (g := fun _ => 0) ha fun v _ hne => by
    show b2n (decide (v = a)) = 0
    rw [decide_eq_false hne]; rfl
  have e2 : sumR n (fun v => b2n (decide (v = a))) + 0 = sumR n (fun _ => 0) + b2n (decide (a = a)) := this
  rw [sumR_zero, decide_eq_true rfl] at e2
  simpa [b2n] using e2
theorem cnt_or3 {n a b c : Nat} {S T U : Nat → Bool} (ha : a < n) (hb : b < n) (hc : c < n) (hab : a ≠ b) (hac : a ≠ c) (hbc : b ≠ c) (a1 : S a = true) (a2 : T a = true) (b1 : S b = true) (b2 : U b = true) (c1 : T c = true) (c2 : U c = true) :
    cnt n (fun v => S v || T v || U v) + 3 ≤ cnt n S + cnt n T + cnt n U := by
  have h1 := sumR_one ha
  have h2 := sumR_one hb
  have h3 := sumR_one hc
  have key : sumR n (fun v => b2n (S v || T v || U v) + (b2n (decide (v = a)) + (b2n (decide (v = b)) + b2n (decide (v = c))))) ≤ sumR n fun v => b2n (S v) + (b2n (T v) + b2n (U v)) := sumR_le fun v _ => by
    by_cases z1 : v = a
    · subst z1
      rw [decide_eq_true rfl, decide_eq_false hab, decide_eq_false hac, a1, a2]
      cases U v <;> decide
    · by_cases z2 : v = b
      · subst z2
        rw [decide_eq_false z1, decide_eq_true rfl, decide_eq_false hbc, b1, b2]
        cases T v <;> decide
      · by_cases z3 : v = c
        · subst z3
          rw [decide_eq_false z1, decide_eq_false z2, decide_eq_true rfl, c1, c2]
          cases S v <;> decide
        · rw [decide_eq_false z1, decide_eq_false z2, decide_eq_false z3]
          cases S v <;> cases T v <;> cases U v <;> decide
  rw [sumR_add, sumR_add, sumR_add, sumR_add, sumR_add, h1, h2, h3] at key
  rw [cnt_eq, cnt_eq, cnt_eq, cnt_eq]
  omega
def Good (n : Nat) (l : List Pr) : Prop := ∀ p ∈ l, p.1 < n ∧ p.2 < n ∧ p.1 ≠ p.2
theorem cnt_ins {n k : Nat} {S : Nat → Bool} (hk : k < n) (h : S k = false) : cnt n (fun v => decide (v = k) || S v) = cnt n S + 1 := by
  rw [cnt_eq, cnt_eq, ← sumR_one hk, ← sumR_add]
  refine sumR_congr fun v _ => ?_
  by_cases z : v = k
  · subst z
    rw [decide_eq_true rfl, h]; rfl
  · rw [decide_eq_false z]
    cases S v <;> rfl
theorem cnt_del {n k : Nat} {S : Nat → Bool} (hk : k < n) (h : S k = true) : cnt n (fun v => S v && !decide (v = k)) + 1 = cnt n S := by
  rw [cnt_eq, cnt_eq, ← sumR_one hk, ← sumR_add]
  refine sumR_congr fun v _ => ?_
  by_cases z : v = k
  · subst z
    rw [decide_eq_true rfl, h]; rfl
  · rw [decide_eq_false z]
    cases S v <;> rfl
theorem Ind.off {n k : Nat} {l : List Pr} (h : Ind n l) : Ind n (off k l) := fun S hS => by
  refine Nat.le_trans (Nat.add_le_add_right ?_ 3) (h S hS)
  unfold insP Hen.off
  rw [List.filter_filter]
  refine List.Sublist.length_le ?_
  have : (l.filter fun a => (S a.1 && S a.2) && !at_ k a) = (l.filter fun p => S p.1 && S p.2).filter fun a => !at_ k a := by
    rw [List.filter_filter]
    congr 1
    funext a
    rw [Bool.and_comm]
  rw [this]
  exact List.filter_sublist
/-- a pair that cannot be added: a tight set has both of its ends -/
theorem tight {n k x y : Nat} {l : List Pr} (h : Ind n (off k l)) (hk : k < n) (hx : x < n) (hy : y < n) (hxy : x ≠ y) (kx : x ≠ k) (ky : y ≠ k) (no : ¬ Ind n (off k l ++ [(x, y)])) :
    ∃ S : Nat → Bool, S x = true ∧ S y = true ∧ S k = false ∧ 2 ≤ cnt n S ∧ insP S (off k l) + 3 = 2 * cnt n S := by
  obtain ⟨S, hS⟩ := Classical.not_forall.mp no
  obtain ⟨h2, hS⟩ := Classical.not_imp.mp hS
  rw [insP_app, insP_one] at hS
  have hi := h S h2
  have hb : S x = true ∧ S y = true := by
    cases e1 : S x <;> cases e2 : S y
    · rw [e1, e2] at hS; simp at hS; omega
    · rw [e1, e2] at hS; simp at hS; omega
    · rw [e1, e2] at hS; simp at hS; omega
    · exact ⟨rfl, rfl⟩
  obtain ⟨e1, e2⟩ := hb
  rw [e1, e2] at hS
  have hS : ¬ insP S (off k l) + 1 + 3 ≤ 2 * cnt n S := hS
  refine ⟨S, e1, e2, ?_, h2, by omega⟩
  cases ek : S k with
  | false => rfl
  | true =>
    exfalso
    have hc := cnt_del hk ek
    have h3 := h (fun v => S v && !decide (v = k)) (cnt_two hx hy hxy (by simp [e1, kx]) (by simp [e2, ky]))
    have hsame : insP (fun v => S v && !decide (v = k)) (off k l) = insP S (off k l) := by
      unfold insP
      congr 1
      refine List.filter_congr fun p mp => ?_
      have hp : at_ k p = false := by
        have := (List.mem_filter.mp mp).2
        simpa using this
      unfold at_ at hp
      rw [Bool.or_eq_false_iff] at hp
      have n1 : p.1 ≠ k := by simpa using hp.1
      have n2 : p.2 ≠ k := by simpa using hp.2
      show ((S p.1 && !decide (p.1 = k)) && (S p.2 && !decide (p.2 = k))) = _
      rw [decide_eq_false n1, decide_eq_false n2]
      simp
    rw [hsame] at h3
    omega
/-- a set that has the three neighbours is not tight -/
theorem slack {n k a b c : Nat} {l : List Pr} {U : Nat → Bool} (h : Ind n l) (hk : k < n) (ha : a < n) (hb : b < n) (hab : a ≠ b) (uk : U k = false) (ua : U a = true) (ub : U b = true) (uc : U c = true)
    (d3 : deg k l = 3) (near : ∀ p ∈ l, (p.1 = k → p.2 = a ∨ p.2 = b ∨ p.2 = c) ∧ (p.2 = k → p.1 = a ∨ p.1 = b ∨ p.1 = c)) : insP U (off k l) + 4 ≤ 2 * cnt n U := by
  have hc := cnt_ins hk uk
  have h2 : 2 ≤ cnt n U := cnt_two ha hb hab ua ub
  have hi := h (fun v => decide (v = k) || U v) (by omega)
  have key : ∀ m : List Pr, (∀ p ∈ m, (p.1 = k → p.2 = a ∨ p.2 = b ∨ p.2 = c) ∧ (p.2 = k → p.1 = a ∨ p.1 = b ∨ p.1 = c)) → insP U (off k m) + deg k m ≤ insP (fun v => decide (v = k) || U v) m := by
    intro m
    induction m with
    | nil => intro _; exact Nat.le_refl _
    | cons p m ih =>
      intro hm
      have ih := ih fun q mq => hm q (List.mem_cons_of_mem _ mq)
      obtain ⟨h1, h2⟩ := hm p (List.mem_cons_self ..)
      rw [insP_cons]
      unfold Hen.off deg at ih ⊢
      rw [List.filter_cons, List.filter_cons]
      have uor : ∀ x, x = a ∨ x = b ∨ x = c → U x = true := fun x hx => by rcases hx with rfl | rfl | rfl <;> assumption
      by_cases e1 : p.1 = k
      · have hat : at_ k p = true := by unfold at_; simp [e1]
        rw [hat]
        have hu := uor _ (h1 e1)
        have hin : ((decide (p.1 = k) || U p.1) && (decide (p.2 = k) || U p.2)) = true := by rw [e1, hu]; simp
        rw [hin]
        show insP U (m.filter fun p => !at_ k p) + (p :: m.filter (at_ k)).length ≤ 1 + _
        rw [List.length_cons]; omega
      · by_cases e2 : p.2 = k
        · have hat : at_ k p = true := by unfold at_; simp [e2]
          rw [hat]
          have hu := uor _ (h2 e2)
          have hin : ((decide (p.1 = k) || U p.1) && (decide (p.2 = k) || U p.2)) = true := by rw [e2, hu]; simp
          rw [hin]
          show insP U (m.filter fun p => !at_ k p) + (p :: m.filter (at_ k)).length ≤ 1 + _
          rw [List.length_cons]; omega
        · have hat : at_ k p = false := by unfold at_; simp [e1, e2]
          rw [hat]
          have hin : ((decide (p.1 = k) || U p.1) && (decide (p.2 = k) || U p.2)) = (U p.1 && U p.2) := by rw [decide_eq_false e1, decide_eq_false e2]; rfl
          rw [hin]
          show insP U (p :: m.filter fun p => !at_ k p) + (m.filter (at_ k)).length ≤ _
          rw [insP_cons]; omega
  have := key l near
  omega
theorem three {n k a b c : Nat} {l : List Pr} (h : Ind n l) (g : Good n l) (hk : k < n) (ha : a < n) (hb : b < n) (hc : c < n) (hab : a ≠ b) (hac : a ≠ c) (hbc : b ≠ c) (ka : a ≠ k) (kb : b ≠ k) (kc : c ≠ k)
    (d3 : deg k l = 3) (near : ∀ p ∈ l, (p.1 = k → p.2 = a ∨ p.2 = b ∨ p.2 = c) ∧ (p.2 = k → p.1 = a ∨ p.1 = b ∨ p.1 = c)) :
    Ind n (off k l ++ [(a, b)]) ∨ Ind n (off k l ++ [(a, c)]) ∨ Ind n (off k l ++ [(b, c)]) := by
  refine Classical.byContradiction fun z => ?_
  rw [not_or, not_or] at z
  obtain ⟨z1, z2, z3⟩ := z
  have ho := Hen.Ind.off (k := k) h
  obtain ⟨X, x1, x2, xk, xc, xt⟩ := tight ho hk ha hb hab ka kb z1
  obtain ⟨Y, y1, y2, yk, yc, yt⟩ := tight ho hk ha hc hac ka kc z2
  obtain ⟨Z, w1, w2, wk, wc, wt⟩ := tight ho hk hb hc hbc kb kc z3
  -- two of them that have two joints in common
  have two : ∀ S T : Nat → Bool, insP S (off k l) + 3 = 2 * cnt n S → insP T (off k l) + 3 = 2 * cnt n T → S k = false → T k = false → (S a || T a) = true → (S b || T b) = true → (S c || T c) = true → 2 ≤ cnt n (fun v => S v && T v) → False := by
    intro S T hS hT sk tk qa qb qc h2
    have s1 := slack (U := fun v => S v || T v) h hk ha hb hab (by simp [sk, tk]) qa qb qc d3 near
    have s2 := insP_or S T (off k l)
    have s3 := cnt_or n S T
    have s4 := ho _ h2
    omega
  by_cases c1 : 2 ≤ cnt n (fun v => X v && Y v)
  · exact two X Y xt yt xk yk (by simp [x1]) (by simp [x2]) (by simp [y2]) c1
  by_cases c2 : 2 ≤ cnt n (fun v => X v && Z v)
  · exact two X Z xt wt xk wk (by simp [x1]) (by simp [x2]) (by simp [w2]) c2
  by_cases c3 : 2 ≤ cnt n (fun v => Y v && Z v)
  · exact two Y Z yt wt yk wk (by simp [y1]) (by simp [w1]) (by simp [y2]) c3
  have apart : ∀ S T : Nat → Bool, ¬ 2 ≤ cnt n (fun v => S v && T v) → ∀ p ∈ off k l, ¬ (S p.1 = true ∧ S p.2 = true ∧ T p.1 = true ∧ T p.2 = true) := fun S T hn p mp ⟨e1, e2, e3, e4⟩ => by
    obtain ⟨g1, g2, g3⟩ := g p (List.mem_filter.mp mp).1
    exact hn (cnt_two g1 g2 g3 (by simp [e1, e3]) (by simp [e2, e4]))
  have s1 := slack (U := fun v => X v || Y v || Z v) h hk ha hb hab (by simp [xk, yk, wk]) (by simp [x1]) (by simp [x2]) (by simp [y2]) d3 near
  have s2 := insP_or3 X Y Z (off k l) fun p mp => ⟨apart X Y c1 p mp, apart X Z c2 p mp, apart Y Z c3 p mp⟩
  have s3 := cnt_or3 (S := X) (T := Y) (U := Z) ha hb hc hab hac hbc x1 y1 x2 w1 y2 w2
  omega
/-! degrees -/
theorem deg_cons (k : Nat) (p : Pr) (l : List Pr) : deg k (p :: l) = b2n (at_ k p) + deg k l := by
  unfold deg b2n
  rw [List.filter_cons]
  split
  · rw [List.length_cons]; omega
  · omega
theorem deg_off (k : Nat) : ∀ l : List Pr, (off k l).length + deg k l = l.length
  | [] => rfl
  | p :: l => by
    have ih := deg_off k l
    unfold off deg at ih ⊢
    rw [List.filter_cons, List.filter_cons]
    cases at_ k p
    · show (p :: l.filter fun p => !at_ k p).length + (l.filter (at_ k)).length = (p :: l).length
      rw [List.length_cons, List.length_cons]; omega
    · show (l.filter fun p => !at_ k p).length + (p :: l.filter (at_ k)).length = (p :: l).length
      rw [List.length_cons, List.length_cons]; omega
theorem deg_sum (n : Nat) : ∀ l : List Pr, Good n l → sumR n (fun v => deg v l) = 2 * l.length
  | [], _ => by
    have : (fun v => deg v []) = fun _ => 0 := rfl
    rw [this, sumR_zero]; rfl
  | p :: l, g => by
    have ih := deg_sum n l fun q mq => g q (List.mem_cons_of_mem _ mq)
    obtain ⟨h1, h2, h3⟩ := g p (List.mem_cons_self ..)
    have e : (fun v => deg v (p :: l)) = fun v => (b2n (decide (v = p.1)) + b2n (decide (v = p.2))) + deg v l := funext fun v => by
      rw [deg_cons]
      congr 1
      unfold at_
      by_cases z1 : v = p.1
      · subst z1
        rw [decide_eq_true rfl, decide_eq_false h3]; simp [b2n]
      · by_cases z2 : v = p.2
        · subst z2
          rw [decide_eq_false z1, decide_eq_true rfl]; simp [b2n]
        · rw [decide_eq_false z1, decide_eq_false z2]
          have w1 : (p.1 == v) = false := beq_eq_false_iff_ne.mpr fun e => z1 e.symm
          have w2 : (p.2 == v) = false := beq_eq_false_iff_ne.mpr fun e => z2 e.symm
          rw [w1, w2]; rfl
    rw [e, sumR_add, sumR_add, sumR_one h1, sumR_one h2, ih, List.length_cons]
    omega
theorem cnt_mem {n : Nat} : ∀ js : List Nat, js.Nodup → (∀ x ∈ js, x < n) → cnt n (fun v => decide (v ∈ js)) = js.length
  | [], _, _ => by
    rw [cnt_eq]
    have : (fun v => b2n (decide (v ∈ ([] : List Nat)))) = fun _ => 0 := funext fun v => by simp [b2n]
    rw [this, sumR_zero]; rfl
  | x :: js, nd, h => by
    obtain ⟨n1, n2⟩ := List.nodup_cons.mp nd
    have ih := cnt_mem js n2 fun y my => h y (List.mem_cons_of_mem _ my)
    have e : (fun v => decide (v ∈ x :: js)) = fun v => decide (v = x) || decide (v ∈ js) := funext fun v => by
      rw [Bool.eq_iff_iff, Bool.or_eq_true, decide_eq_true_iff, decide_eq_true_iff, decide_eq_true_iff, List.mem_cons]
    rw [e, cnt_ins (h x (List.mem_cons_self ..)) (by rw [decide_eq_false_iff_not]; exact n1), ih, List.length_cons]
theorem insP_off {k : Nat} {S : Nat → Bool} : ∀ l : List Pr, (∀ p ∈ l, S p.1 = true ∧ S p.2 = true) → insP (fun v => S v && !decide (v = k)) l = (off k l).length
  | [], _ => rfl
  | p :: l, h => by
    have ih := insP_off (k := k) l fun q mq => h q (List.mem_cons_of_mem _ mq)
    obtain ⟨h1, h2⟩ := h p (List.mem_cons_self ..)
    rw [insP_cons, ih]
    unfold off at_
    rw [List.filter_cons]
    show b2n ((S p.1 && !decide (p.1 = k)) && (S p.2 && !decide (p.2 = k))) + _ = _
    rw [h1, h2]
    by_cases z1 : p.1 = k
    · simp [z1, b2n]
    · by_cases z2 : p.2 = k
      · simp [z1, z2, b2n]
      · simp [z1, z2, b2n]; omega
/-- where a building can still be taken down -/
structure Bld (n : Nat) (js : List Nat) (l : List Pr) : Prop where
  ind : Ind n l
  good : Good n l
  up : ∀ p ∈ l, p.1 < p.2
  mem : ∀ p ∈ l, p.1 ∈ js ∧ p.2 ∈ js
  nd : js.Nodup
  lt : ∀ x ∈ js, x < n
  len : l.length + 3 = 2 * js.length
theorem Bld.ge2 {n k : Nat} {js : List Nat} {l : List Pr} (b : Bld n js l) (hk : k ∈ js) (h3 : 2 < js.length) : 2 ≤ deg k l := by
  have c := cnt_mem js b.nd b.lt
  have c2 := cnt_del (n := n) (k := k) (S := fun v => decide (v ∈ js)) (b.lt k hk) (decide_eq_true hk)
  have hi := b.ind (fun v => decide (v ∈ js) && !decide (v = k)) (by omega)
  rw [insP_off l fun p mp => ⟨decide_eq_true (b.mem p mp).1, decide_eq_true (b.mem p mp).2⟩] at hi
  have := deg_off k l
  have := b.len
  omega
theorem Bld.le3 {n : Nat} {js : List Nat} {l : List Pr} (b : Bld n js l) : ∃ v ∈ js, deg v l ≤ 3 := by
  refine Classical.byContradiction fun z => ?_
  have h4 : ∀ v ∈ js, 4 ≤ deg v l := fun v mv => Nat.lt_of_not_le fun h => z ⟨v, mv, h⟩
  have c := cnt_mem js b.nd b.lt
  have s := deg_sum n l b.good
  have le : sumR n (fun v => (b2n (decide (v ∈ js)) + b2n (decide (v ∈ js))) + (b2n (decide (v ∈ js)) + b2n (decide (v ∈ js)))) ≤ sumR n fun v => deg v l := sumR_le fun v _ => by
    by_cases m : v ∈ js
    · rw [decide_eq_true m]; exact h4 v m
    · rw [decide_eq_false m]; exact Nat.zero_le _
  rw [sumR_add, sumR_add] at le
  rw [cnt_eq] at c
  have := b.len
  omega
/-- no pair stands twice -/
theorem twice {n x y : Nat} {l : List Pr} (hx : x < n) (hy : y < n) (hxy : x ≠ y) (h : Ind n l) (h2 : 2 ≤ insP (fun v => decide (v = x) || decide (v = y)) l) : False := by
  have c : cnt n (fun v => decide (v = x) || decide (v = y)) = 2 := by
    have e := cnt_ins (n := n) (k := x) (S := fun v => decide (v = y)) hx (decide_eq_false hxy)
    rw [e, cnt_eq]
    rw [sumR_one hy]
  have := h _ (by rw [c]; exact Nat.le_refl _)
  omega
theorem Ind.tail {n : Nat} {p : Pr} {l : List Pr} (h : Ind n (p :: l)) : Ind n l := fun S hS => by
  have := h S hS
  rw [insP_cons] at this
  omega
theorem insP_mem {x y : Nat} {p : Pr} : ∀ {l : List Pr}, p ∈ l → (p.1 = x ∨ p.1 = y) → (p.2 = x ∨ p.2 = y) → 1 ≤ insP (fun v => decide (v = x) || decide (v = y)) l
  | [], m, _, _ => by cases m
  | q :: l, m, h1, h2 => by
    rw [insP_cons]
    rcases List.mem_cons.mp m with rfl | m
    · have : ((decide (p.1 = x) || decide (p.1 = y)) && (decide (p.2 = x) || decide (p.2 = y))) = true := by
        rcases h1 with e | e <;> rcases h2 with e' | e' <;> simp [e, e']
      rw [this]
      show 1 ≤ 1 + _
      omega
    · have := insP_mem m h1 h2
      omega
/-- the other end -/
def oth (k : Nat) (p : Pr) : Nat := p.1 + p.2 - k
theorem oth_nodup {n k : Nat} : ∀ {l : List Pr}, Ind n l → Good n l → ((l.filter (at_ k)).map (oth k)).Nodup
  | [], _, _ => .nil
  | p :: l, h, g => by
    have ih := oth_nodup (k := k) (Ind.tail h) fun q mq => g q (List.mem_cons_of_mem _ mq)
    rw [List.filter_cons]
    cases hat : at_ k p with
    | false => exact ih
    | true =>
      show (oth k p :: (l.filter (at_ k)).map (oth k)).Nodup
      refine List.nodup_cons.mpr ⟨fun m => ?_, ih⟩
      obtain ⟨q, mq, eq⟩ := List.mem_map.mp m
      obtain ⟨m1, m2⟩ := List.mem_filter.mp mq
      obtain ⟨p1, p2, p3⟩ := g p (List.mem_cons_self ..)
      obtain ⟨q1, q2, q3⟩ := g q (List.mem_cons_of_mem _ m1)
      unfold at_ at hat m2
      rw [Bool.or_eq_true, beq_iff_eq, beq_iff_eq] at hat m2
      unfold oth at eq
      have hx : p.1 = q.1 ∧ p.2 = q.2 ∨ p.1 = q.2 ∧ p.2 = q.1 := by omega
      refine twice p1 p2 p3 h ?_
      rw [insP_cons]
      have e1 : ((decide (p.1 = p.1) || decide (p.1 = p.2)) && (decide (p.2 = p.1) || decide (p.2 = p.2))) = true := by simp
      rw [e1]
      have := insP_mem (x := p.1) (y := p.2) m1 (by omega) (by omega)
      show 2 ≤ 1 + _
      omega
/-- adding a pair that stands there already -/
theorem no_twice {n x y : Nat} {l : List Pr} (hx : x < n) (hy : y < n) (hxy : x ≠ y) (h : Ind n (l ++ [(x, y)])) : (x, y) ∉ l := fun m => by
  refine twice hx hy hxy h ?_
  rw [insP_app, insP_one]
  have := insP_mem (x := x) (y := y) m (.inl rfl) (.inr rfl)
  have e : ((decide (x = x) || decide (x = y)) && (decide (y = x) || decide (y = y))) = true := by simp
  rw [e]
  show 2 ≤ _ + 1
  omega
theorem off_mem {k : Nat} {l : List Pr} {p : Pr} (h : p ∈ off k l) : p ∈ l ∧ p.1 ≠ k ∧ p.2 ≠ k := by
  obtain ⟨h1, h2⟩ := List.mem_filter.mp h
  unfold at_ at h2
  rw [Bool.not_eq_true', Bool.or_eq_false_iff, beq_eq_false_iff_ne, beq_eq_false_iff_ne] at h2
  exact ⟨h1, h2⟩
theorem mem_off {k : Nat} {l : List Pr} {p : Pr} (h : p ∈ l) (h1 : p.1 ≠ k) (h2 : p.2 ≠ k) : p ∈ off k l := by
  refine List.mem_filter.mpr ⟨h, ?_⟩
  unfold at_
  rw [Bool.not_eq_true', Bool.or_eq_false_iff, beq_eq_false_iff_ne, beq_eq_false_iff_ne]
  exact ⟨h1, h2⟩
theorem Bld.two {n k : Nat} {js : List Nat} {l : List Pr} (b : Bld n js l) (hk : k ∈ js) (d : deg k l = 2) : Bld n (js.erase k) (off k l) where
  ind := Hen.Ind.off b.ind
  good := fun p mp => b.good p (off_mem mp).1
  up := fun p mp => b.up p (off_mem mp).1
  mem := fun p mp => by
    obtain ⟨m, h1, h2⟩ := off_mem mp
    exact ⟨(List.mem_erase_of_ne h1).mpr (b.mem p m).1, (List.mem_erase_of_ne h2).mpr (b.mem p m).2⟩
  nd := b.nd.erase k
  lt := fun x mx => b.lt x (List.mem_of_mem_erase mx)
  len := by
    have := deg_off k l
    have := b.len
    rw [List.length_erase_of_mem hk]
    have : 0 < js.length := List.length_pos_of_mem hk
    omega
theorem Bld.three {n k x y : Nat} {js : List Nat} {l : List Pr} (b : Bld n js l) (hk : k ∈ js) (d : deg k l = 3) (hx : x ∈ js) (hy : y ∈ js) (kx : x ≠ k) (ky : y ≠ k) (xy : x < y) (i : Ind n (off k l ++ [(x, y)])) : Bld n (js.erase k) (off k l ++ [(x, y)]) where
  ind := i
  good := fun p mp => by
    rcases List.mem_append.mp mp with mp | mp
    · exact b.good p (off_mem mp).1
    · rw [List.mem_singleton.mp mp]; exact ⟨b.lt x hx, b.lt y hy, Nat.ne_of_lt xy⟩
  up := fun p mp => by
    rcases List.mem_append.mp mp with mp | mp
    · exact b.up p (off_mem mp).1
    · rw [List.mem_singleton.mp mp]; exact xy
  mem := fun p mp => by
    rcases List.mem_append.mp mp with mp | mp
    · obtain ⟨m, h1, h2⟩ := off_mem mp
      exact ⟨(List.mem_erase_of_ne h1).mpr (b.mem p m).1, (List.mem_erase_of_ne h2).mpr (b.mem p m).2⟩
    · rw [List.mem_singleton.mp mp]; exact ⟨(List.mem_erase_of_ne kx).mpr hx, (List.mem_erase_of_ne ky).mpr hy⟩
  nd := b.nd.erase k
  lt := fun x mx => b.lt x (List.mem_of_mem_erase mx)
  len := by
    have := deg_off k l
    have := b.len
    rw [List.length_erase_of_mem hk, List.length_append]
    have : 0 < js.length := List.length_pos_of_mem hk
    show (off k l).length + 1 + 3 = _
    omega
end Hen
namespace DX
open PySem L2 LamK
local macro_rules | `(tactic| walk_at "ev1") => `(tactic| with_reducible first
  | exact ed_int | exact ed_bl | exact ed_non | exact ed_str
  | refine' ed_var ?_
  | refine' ed_rI0 ?_ ?_ ?_
  | refine' ed_rI ?_ ?_ ?_ ?_
  | refine' ed_rU ?_ ?_
  | refine' ed_ix ?_ ?_ ?_
  | refine' ed_tup ?_ ?_
  | exact ea_nil | refine' ea_cons ?_ ?_
  | refine' ed_len ?_ ?_ | refine' ed_abs ?_ | refine' ed_max2 ?_ ?_ | refine' ed_min2 ?_ ?_ | refine' ed_int1 ?_ ?_
  | refine' ed_gcd ?_ ?_ | refine' ed_lcm ?_ ?_ ?_ ?_
  | refine' ed_call ?_ ?_
  | refine' ed_isi ?_ ?_
  | refine' ed_isB ?_ ?_ | refine' ed_notB ?_ ?_
  | refine' ed_eqD ?_ ?_ ?_ ?_ ?_ | refine' ed_neD ?_ ?_ ?_ ?_ ?_
  | refine' et_test ?_ | refine' et_B ?_
  | refine' et_and ?_ (fun _ => ?_) | refine' et_or ?_ (fun _ => ?_) | refine' et_not ?_
  | refine' ed_andV ?_ (fun _ => ?_) | refine' ed_orV ?_ (fun _ => ?_) | refine' ed_notV ?_
  | refine' EN.ed (en_lst ?_ ?_) | refine' EN.ed (en_rep ?_ ?_ ?_ ?_) | refine' EN.ed (en_cat ?_ ?_ ?_)
  | refine' en_lst ?_ ?_ | refine' en_rep ?_ ?_ ?_ ?_ | refine' en_cat ?_ ?_ ?_ | refine' en_list ?_ ?_ | refine' EN.ed (en_list ?_ ?_)
  | refine' ei_seq ?_ ?_ | refine' ei_rngN ?_ ?_ ?_ | refine' ei_zipL ?_ ?_ | refine' ei_zipT ?_ ?_ | refine' ei_enumA ?_ ?_
  | refine' ed_in ?_ ?_ ?_ | refine' ed_notin ?_ ?_ ?_ | refine' ed_catT ?_ ?_ ?_ ?_ | refine' en_catA ?_ ?_ ?_ | refine' ed_sliceT ?_ ?_ ?_ | refine' en_sliceB ?_ ?_ ?_ | refine' eo_some ?_ | exact eo_none
  | refine' ed_isN ?_ | refine' ed_notN ?_ | refine' et_truth ?_ ?_ | refine' ed_lenD ?_
  | exact Sc.int _ | exact Sc.bl _ | exact Shp.shaped shp_num | exact Shp.shaped (n := 0) shp_int | exact Shp.shaped (n := 1) shp_ints)
local macro_rules | `(tactic| walk_at "ev2") => `(tactic| first | walk_at "ev1" | rfl | exact Sc.int _ | exact Sc.bl _ | exact sz_small (by simp; done) | exact powX (by decide))
local macro_rules | `(tactic| walk_at "ev") => `(tactic| repeat' (walk_at "ev2"))
local macro_rules | `(tactic| walk_at "sh") => `(tactic| first | exact Shp.shaped (n := 0) shp_int | exact Shp.shaped (n := 1) shp_ints | exact Shp.shaped (n := 1) shp_num)

def topS (i : Nat) : Stmt := PySem.Challenge.pw_loadorloose_k33_buildings_are_judged.main.body.getD i (.Pass ⟨0, 0, 0, 0⟩)
abbrev s_reached : Stmt := topS 1
abbrev N_reached : List Str := ["ways", "start", "before", "waiting", "place", "other"]
theorem sc_reached : FnScope N_reached ["ways", "start"] (defScope s_reached) := ⟨rfl, rfl, rfl, by decide +kernel, rfl, by decide +kernel, by decide +kernel⟩
abbrev s_Holder___init__ : Stmt := inClass (topS 3) 0
abbrev N_Holder___init__ : List Str := ["self", "n", "_"]
theorem sc_Holder___init__ : FnScope N_Holder___init__ ["self", "n"] (defScope s_Holder___init__) := ⟨rfl, rfl, rfl, by decide +kernel, rfl, by decide +kernel, by decide +kernel⟩
abbrev s_Holder_take : Stmt := inClass (topS 3) 1
abbrev N_Holder_take : List Str := ["self", "i", "j"]
theorem sc_Holder_take : FnScope N_Holder_take ["self", "i", "j"] (defScope s_Holder_take) := ⟨rfl, rfl, rfl, by decide +kernel, rfl, by decide +kernel, by decide +kernel⟩
abbrev s_Holder_has_room : Stmt := inClass (topS 3) 2
abbrev N_Holder_has_room : List Str := ["self", "i", "j"]
theorem sc_Holder_has_room : FnScope N_Holder_has_room ["self", "i", "j"] (defScope s_Holder_has_room) := ⟨rfl, rfl, rfl, by decide +kernel, rfl, by decide +kernel, by decide +kernel⟩
abbrev s_Holder_bring : Stmt := inClass (topS 3) 3
abbrev N_Holder_bring : List Str := ["self", "joint", "other", "before", "givers", "place"]
theorem sc_Holder_bring : FnScope N_Holder_bring ["self", "joint", "other"] (defScope s_Holder_bring) := ⟨rfl, rfl, rfl, by decide +kernel, rfl, by decide +kernel, by decide +kernel⟩
abbrev s_Holder_pass_on : Stmt := inClass (topS 3) 4
abbrev N_Holder_pass_on : List Str := ["self", "joint", "before", "tail"]
theorem sc_Holder_pass_on : FnScope N_Holder_pass_on ["self", "joint", "before"] (defScope s_Holder_pass_on) := ⟨rfl, rfl, rfl, by decide +kernel, rfl, by decide +kernel, by decide +kernel⟩
abbrev s_are_independent : Stmt := topS 4
abbrev N_are_independent : List Str := ["n", "pairs"]
theorem sc_are_independent : FnScope N_are_independent ["n", "pairs"] (defScope s_are_independent) := ⟨rfl, rfl, rfl, by decide +kernel, rfl, by decide +kernel, by decide +kernel⟩
abbrev s_chosen : Stmt := topS 5
abbrev N_chosen : List Str := ["net", "n", "pairs", "holder", "found", "pair"]
theorem sc_chosen : FnScope N_chosen ["net"] (defScope s_chosen) := ⟨rfl, rfl, rfl, by decide +kernel, rfl, by decide +kernel, by decide +kernel⟩
abbrev s_building : Stmt := topS 8
abbrev N_building : List Str := ["net", "n", "_", "pairs", "joints", "steps", "step"]
theorem sc_building : FnScope N_building ["net"] (defScope s_building) := ⟨rfl, rfl, rfl, by decide +kernel, rfl, by decide +kernel, by decide +kernel⟩
abbrev s_last_step : Stmt := topS 9
abbrev N_last_step : List Str := ["n", "joints", "pairs", "k", "near", "joint"]
theorem sc_last_step : FnScope N_last_step ["n", "joints", "pairs"] (defScope s_last_step) := ⟨rfl, rfl, rfl, by decide +kernel, rfl, by decide +kernel, by decide +kernel⟩
abbrev s_neighbours : Stmt := topS 10
abbrev N_neighbours : List Str := ["joint", "pairs", "i", "j"]
theorem sc_neighbours : FnScope N_neighbours ["joint", "pairs"] (defScope s_neighbours) := ⟨rfl, rfl, rfl, by decide +kernel, rfl, by decide +kernel, by decide +kernel⟩
abbrev s_three_step : Stmt := topS 11
abbrev N_three_step : List Str := ["n", "k", "near", "pairs", "a", "b", "c", "steps", "fit", "step"]
theorem sc_three_step : FnScope N_three_step ["n", "k", "near", "pairs"] (defScope s_three_step) := ⟨rfl, rfl, rfl, by decide +kernel, rfl, by decide +kernel, by decide +kernel⟩
abbrev s_undone : Stmt := topS 12
abbrev N_undone : List Str := ["pairs", "step", "k", "left", "pair"]
theorem sc_undone : FnScope N_undone ["pairs", "step"] (defScope s_undone) := ⟨rfl, rfl, rfl, by decide +kernel, rfl, by decide +kernel, by decide +kernel⟩
abbrev s_is_building : Stmt := topS 13
abbrev N_is_building : List Str := ["net", "steps", "n", "pairs", "joints", "there", "step", "pair"]
theorem sc_is_building : FnScope N_is_building ["net", "steps"] (defScope s_is_building) := ⟨rfl, rfl, rfl, by decide +kernel, rfl, by decide +kernel, by decide +kernel⟩
abbrev s_can_follow : Stmt := topS 14
abbrev N_can_follow : List Str := ["joints", "there", "step", "k", "i", "j", "h"]
theorem sc_can_follow : FnScope N_can_follow ["joints", "there", "step"] (defScope s_can_follow) := ⟨rfl, rfl, rfl, by decide +kernel, rfl, by decide +kernel, by decide +kernel⟩
abbrev s_after : Stmt := topS 15
abbrev N_after : List Str := ["joints", "there", "step", "k", "i", "j", "left", "pair"]
theorem sc_after : FnScope N_after ["joints", "there", "step"] (defScope s_after) := ⟨rfl, rfl, rfl, by decide +kernel, rfl, by decide +kernel, by decide +kernel⟩
abbrev s_ascending : Stmt := topS 16
abbrev N_ascending : List Str := ["i", "j"]
theorem sc_ascending : FnScope N_ascending ["i", "j"] (defScope s_ascending) := ⟨rfl, rfl, rfl, by decide +kernel, rfl, by decide +kernel, by decide +kernel⟩
abbrev s_u_law_cell : Stmt := topS 18
abbrev N_u_law_cell : List Str := ["script", "k"]
theorem sc_u_law_cell : FnScope N_u_law_cell ["script", "k"] (defScope s_u_law_cell) := ⟨rfl, rfl, rfl, by decide +kernel, rfl, by decide +kernel, by decide +kernel⟩
abbrev s_u_law_parts : Stmt := topS 19
abbrev N_u_law_parts : List Str := ["cell", "sizes", "parts", "left", "k", "mixed"]
theorem sc_u_law_parts : FnScope N_u_law_parts ["cell", "sizes"] (defScope s_u_law_parts) := ⟨rfl, rfl, rfl, by decide +kernel, rfl, by decide +kernel, by decide +kernel⟩
abbrev s_u_law_net : Stmt := topS 20
abbrev N_u_law_net : List Str := ["script", "least", "most", "parts", "n", "draws", "pairs", "at", "i", "j", "turn"]
theorem sc_u_law_net : FnScope N_u_law_net ["script", "least", "most"] (defScope s_u_law_net) := ⟨rfl, rfl, rfl, by decide +kernel, rfl, by decide +kernel, by decide +kernel⟩
abbrev s_u_law_builds : Stmt := topS 21
abbrev N_u_law_builds : List Str := ["net", "steps", "joints", "pairs", "at", "step", "ends", "new", "end", "pair"]
theorem sc_u_law_builds : FnScope N_u_law_builds ["net", "steps"] (defScope s_u_law_builds) := ⟨rfl, rfl, rfl, by decide +kernel, rfl, by decide +kernel, by decide +kernel⟩
abbrev s_u_law_spoilt : Stmt := topS 22
abbrev N_u_law_spoilt : List Str := ["steps", "parts", "n", "at", "step", "others", "where", "changed"]
theorem sc_u_law_spoilt : FnScope N_u_law_spoilt ["steps", "parts", "n"] (defScope s_u_law_spoilt) := ⟨rfl, rfl, rfl, by decide +kernel, rfl, by decide +kernel, by decide +kernel⟩
abbrev s_law : Stmt := topS 23
abbrev N_law : List Str := ["script", "net", "parts", "steps", "lesser", "some", "other", "told", "k"]
theorem sc_law : FnScope N_law ["script"] (defScope s_law) := ⟨rfl, rfl, rfl, by decide +kernel, rfl, by decide +kernel, by decide +kernel⟩
structure Txt (K : PySem.W.Frag) (mg : Str → Option Value) where
  f_reached : Addr
  fd_reached : FuncData
  F_reached : Fun K "reached" "reached" s_reached f_reached fd_reached
  g_reached : mg "reached" = some (.ref f_reached)
  b_reached : Binds K fd_reached ["ways", "start"] []
  C_Holder : Addr
  cl_Holder : Cls K C_Holder
  g_Holder : mg "Holder" = some (.ref C_Holder)
  n_Holder_pebbles : NoAttr K C_Holder "pebbles"
  n_Holder_heads : NoAttr K C_Holder "heads"
  f_Holder___init__ : Addr
  fd_Holder___init__ : FuncData
  F_Holder___init__ : Fun K "__init__" "Holder.__init__" s_Holder___init__ f_Holder___init__ fd_Holder___init__
  mk_Holder : Mk K C_Holder f_Holder___init__
  b_Holder___init__ : Binds K fd_Holder___init__ ["self", "n"] []
  f_Holder_take : Addr
  fd_Holder_take : FuncData
  F_Holder_take : Fun K "take" "Holder.take" s_Holder_take f_Holder_take fd_Holder_take
  m_Holder_take : Meth K C_Holder "take" f_Holder_take
  b_Holder_take : Binds K fd_Holder_take ["self", "i", "j"] []
  f_Holder_has_room : Addr
  fd_Holder_has_room : FuncData
  F_Holder_has_room : Fun K "has_room" "Holder.has_room" s_Holder_has_room f_Holder_has_room fd_Holder_has_room
  m_Holder_has_room : Meth K C_Holder "has_room" f_Holder_has_room
  b_Holder_has_room : Binds K fd_Holder_has_room ["self", "i", "j"] []
  f_Holder_bring : Addr
  fd_Holder_bring : FuncData
  F_Holder_bring : Fun K "bring" "Holder.bring" s_Holder_bring f_Holder_bring fd_Holder_bring
  m_Holder_bring : Meth K C_Holder "bring" f_Holder_bring
  b_Holder_bring : Binds K fd_Holder_bring ["self", "joint", "other"] []
  f_Holder_pass_on : Addr
  fd_Holder_pass_on : FuncData
  F_Holder_pass_on : Fun K "pass_on" "Holder.pass_on" s_Holder_pass_on f_Holder_pass_on fd_Holder_pass_on
  m_Holder_pass_on : Meth K C_Holder "pass_on" f_Holder_pass_on
  b_Holder_pass_on : Binds K fd_Holder_pass_on ["self", "joint", "before"] []
  f_are_independent : Addr
  fd_are_independent : FuncData
  F_are_independent : Fun K "are_independent" "are_independent" s_are_independent f_are_independent fd_are_independent
  g_are_independent : mg "are_independent" = some (.ref f_are_independent)
  b_are_independent : Binds K fd_are_independent ["n", "pairs"] []
  f_chosen : Addr
  fd_chosen : FuncData
  F_chosen : Fun K "chosen" "chosen" s_chosen f_chosen fd_chosen
  g_chosen : mg "chosen" = some (.ref f_chosen)
  b_chosen : Binds K fd_chosen ["net"] []
  f_building : Addr
  fd_building : FuncData
  F_building : Fun K "building" "building" s_building f_building fd_building
  g_building : mg "building" = some (.ref f_building)
  b_building : Binds K fd_building ["net"] []
  f_last_step : Addr
  fd_last_step : FuncData
  F_last_step : Fun K "last_step" "last_step" s_last_step f_last_step fd_last_step
  g_last_step : mg "last_step" = some (.ref f_last_step)
  b_last_step : Binds K fd_last_step ["n", "joints", "pairs"] []
  f_neighbours : Addr
  fd_neighbours : FuncData
  F_neighbours : Fun K "neighbours" "neighbours" s_neighbours f_neighbours fd_neighbours
  g_neighbours : mg "neighbours" = some (.ref f_neighbours)
  b_neighbours : Binds K fd_neighbours ["joint", "pairs"] []
  f_three_step : Addr
  fd_three_step : FuncData
  F_three_step : Fun K "three_step" "three_step" s_three_step f_three_step fd_three_step
  g_three_step : mg "three_step" = some (.ref f_three_step)
  b_three_step : Binds K fd_three_step ["n", "k", "near", "pairs"] []
  f_undone : Addr
  fd_undone : FuncData
  F_undone : Fun K "undone" "undone" s_undone f_undone fd_undone
  g_undone : mg "undone" = some (.ref f_undone)
  b_undone : Binds K fd_undone ["pairs", "step"] []
  f_is_building : Addr
  fd_is_building : FuncData
  F_is_building : Fun K "is_building" "is_building" s_is_building f_is_building fd_is_building
  g_is_building : mg "is_building" = some (.ref f_is_building)
  b_is_building : Binds K fd_is_building ["net", "steps"] []
  f_can_follow : Addr
  fd_can_follow : FuncData
  F_can_follow : Fun K "can_follow" "can_follow" s_can_follow f_can_follow fd_can_follow
  g_can_follow : mg "can_follow" = some (.ref f_can_follow)
  b_can_follow : Binds K fd_can_follow ["joints", "there", "step"] []
  f_after : Addr
  fd_after : FuncData
  F_after : Fun K "after" "after" s_after f_after fd_after
  g_after : mg "after" = some (.ref f_after)
  b_after : Binds K fd_after ["joints", "there", "step"] []
  f_ascending : Addr
  fd_ascending : FuncData
  F_ascending : Fun K "ascending" "ascending" s_ascending f_ascending fd_ascending
  g_ascending : mg "ascending" = some (.ref f_ascending)
  b_ascending : Binds K fd_ascending ["i", "j"] []
  f_u_law_cell : Addr
  fd_u_law_cell : FuncData
  F_u_law_cell : Fun K "_law_cell" "_law_cell" s_u_law_cell f_u_law_cell fd_u_law_cell
  g_u_law_cell : mg "_law_cell" = some (.ref f_u_law_cell)
  b_u_law_cell : Binds K fd_u_law_cell ["script", "k"] []
  f_u_law_parts : Addr
  fd_u_law_parts : FuncData
  F_u_law_parts : Fun K "_law_parts" "_law_parts" s_u_law_parts f_u_law_parts fd_u_law_parts
  g_u_law_parts : mg "_law_parts" = some (.ref f_u_law_parts)
  b_u_law_parts : Binds K fd_u_law_parts ["cell", "sizes"] []
  f_u_law_net : Addr
  fd_u_law_net : FuncData
  F_u_law_net : Fun K "_law_net" "_law_net" s_u_law_net f_u_law_net fd_u_law_net
  g_u_law_net : mg "_law_net" = some (.ref f_u_law_net)
  b_u_law_net : Binds K fd_u_law_net ["script", "least", "most"] []
  f_u_law_builds : Addr
  fd_u_law_builds : FuncData
  F_u_law_builds : Fun K "_law_builds" "_law_builds" s_u_law_builds f_u_law_builds fd_u_law_builds
  g_u_law_builds : mg "_law_builds" = some (.ref f_u_law_builds)
  b_u_law_builds : Binds K fd_u_law_builds ["net", "steps"] []
  f_u_law_spoilt : Addr
  fd_u_law_spoilt : FuncData
  F_u_law_spoilt : Fun K "_law_spoilt" "_law_spoilt" s_u_law_spoilt f_u_law_spoilt fd_u_law_spoilt
  g_u_law_spoilt : mg "_law_spoilt" = some (.ref f_u_law_spoilt)
  b_u_law_spoilt : Binds K fd_u_law_spoilt ["steps", "parts", "n"] []
  f_law : Addr
  fd_law : FuncData
  F_law : Fun K "law" "law" s_law f_law fd_law
  g_law : mg "law" = some (.ref f_law)
  cc_last_step : Addr
  P_last_step : Addr
  code_last_step : fd_last_step.code = .ref cc_last_step
  z_all : mg "all" = none
  z_bool : mg "bool" = none
  z_int : mg "int" = none
  z_isinstance : mg "isinstance" = none
  z_len : mg "len" = none
  z_list : mg "list" = none
  z_max : mg "max" = none
  z_min : mg "min" = none
  z_range : mg "range" = none
  z_set : mg "set" = none
  z_sorted : mg "sorted" = none
  z_tuple : mg "tuple" = none
  a_LENGTHS : Addr
  c_LENGTHS : mg "LENGTHS" = some (.ref a_LENGTHS)
structure Lams [G : TabEnv] {K : PySem.W.Frag} {mg : Str → Option Value} (T : Txt K mg) (base : Heap) (w : World) : Prop where
  dl_LENGTHS : KDic K w T.a_LENGTHS [("pair", 3), ("two", 4), ("three", 5)]
  tb_last_step : LamX.TabB base mg T.cc_last_step T.P_last_step
  tm_last_step : (T.P_last_step, ((PyProof.Rows.envOfC "last_step" (defScope s_last_step) 0 0 .none).qual ++ "<lambda>")) ∈ G.T
section
variable {P : Program} {w : World} {K : PySem.W.Frag} {mg : Str → Option Value} {base : Heap}
variable [TabEnv]
theorem atI_map {α : Type} {xs : List α} {g : α → D} {k : Nat} {x : α} (h : xs[k]? = some x) : atI (xs.map g) (k : Int) = some (g x) := atI_nat (by rw [List.getElem?_map, h]; rfl)

/-! ### pebbles -/
def natD (n : Nat) : D := .int (n : Int)
def natL (h : List Nat) : List D := (h.map fun (n : Nat) => (n : Int)).map PyData.int
theorem natL_eq (h : List Nat) : natL h = h.map natD := by
  unfold natL
  rw [List.map_map]; rfl
theorem natL_len {h : List Nat} : (natL h).length = h.length := by rw [natL_eq, List.length_map]
theorem natL_get {h : List Nat} {k : Nat} (hk : k < h.length) : (natL h)[k]? = some (natD (h.getD k 0)) := by
  rw [natL_eq, List.getElem?_map, List.getD_eq_getElem?_getD, List.getElem?_eq_getElem hk]; rfl
theorem natL_at {h : List Nat} {k : Nat} (hk : k < h.length) : atI (natL h) (k : Int) = some (natD (h.getD k 0)) := atI_nat (natL_get hk)
theorem natL_app {a b : List Nat} : natL (a ++ b) = natL a ++ natL b := by
  rw [natL_eq, natL_eq, natL_eq, List.map_append]
theorem natL_set {h : List Nat} {k x : Nat} : natL (h.set k x) = (natL h).set k (natD x) := by
  rw [natL_eq, natL_eq, List.map_set]
theorem hfs_get {hs : List (List Nat)} {k : Nat} (hk : k < hs.length) : (hs.map natL)[k]? = some (natL (hs.getD k [])) := by
  rw [List.getElem?_map, List.getD_eq_getElem?_getD, List.getElem?_eq_getElem hk]; rfl
theorem hfs_set {hs : List (List Nat)} {k : Nat} {x : List Nat} : (hs.map natL).set k (natL x) = (hs.set k x).map natL := by rw [List.map_set]
theorem ix_nat {n k : Nat} (h : k < n) : ixN n (k : Int) = some k := ixN_at (by omega) (by omega) (by omega)

theorem kPH : ¬ (("pebbles" : Str) = "heads") := by decide +kernel
def hfs (ps : List Nat) (hs : List (List Nat)) : FM := [("pebbles", .l (natL ps)), ("heads", .ll (hs.map natL))]
theorem hfs_p {ps : List Nat} {hs : List (List Nat)} : fget "pebbles" (hfs ps hs) = some (.l (natL ps)) := by
  unfold hfs fget
  rw [if_pos rfl]
theorem hfs_h {ps : List Nat} {hs : List (List Nat)} : fget "heads" (hfs ps hs) = some (.ll (hs.map natL)) := by
  unfold hfs fget fget
  rw [if_neg kPH, if_pos rfl]
theorem hfs_putp {ps ps' : List Nat} {hs : List (List Nat)} : putD "pebbles" (.l (natL ps')) (hfs ps hs) = hfs ps' hs := by
  unfold hfs putD
  rw [if_pos rfl]
theorem hfs_puth {ps : List Nat} {hs hs' : List (List Nat)} : putD "heads" (.ll (hs'.map natL)) (hfs ps hs) = hfs ps hs' := by
  unfold hfs putD putD
  rw [if_neg kPH, if_pos rfl]
theorem hfs_put2 {x y : FD} : putD "heads" y (putD "pebbles" x []) = ([("pebbles", x), ("heads", y)] : FM) := by
  show (if ("pebbles" : Str) = "heads" then ([("heads", y)] : FM) else ("pebbles", x) :: putD "heads" y []) = _
  rw [if_neg kPH]
  rfl
theorem hfs_keys {ps : List Nat} {hs : List (List Nat)} : (hfs ps hs).map Prod.fst = [("pebbles" : Str), "heads"] := rfl
theorem hfs_nd {ps : List Nat} {hs : List (List Nat)} : ((hfs ps hs).map Prod.fst).Nodup := by
  rw [hfs_keys]; decide +kernel
theorem hfs_noM {ps : List Nat} {hs : List (List Nat)} : NoM (hfs ps hs) := fun f es hm => by
  unfold hfs at hm
  simp at hm
/-! __init__ -/
def Pre_Init (n : Nat) (fs : FM) (ds : List D) : Prop := fs = [] ∧ ds = [natD n] ∧ n ≤ 1000
def Post_Init (n : Nat) (d : D) (fs : FM) : Prop := d = .none ∧ fs = hfs (List.replicate n 2) (List.replicate n [])
theorem ok_Holder___init__ (T : Txt K mg) (B : Lams T base w) : FnOk P w K mg base CX0 1 T.f_Holder___init__ T.fd_Holder___init__ ["self", "n"] (spM K T.C_Holder Pre_Init Post_Init) := by
  refine ok_wpM T.F_Holder___init__ sc_Holder___init__ (by decide) ?_ (fun cdv hcv A outer s H E hr => ⟨_, (pss_cons (kps_fld (K := K) (pv 0) (pe_op op_rep (pe_lst (pa_cons pe_int pa_nil)) (pv 1)))
      (pss_one (kps_fld (K := K) (pv 0) (pe_lc (own := [("_", 2)]) (by rfl) sc_Holder___init__.nd (pi_range1 (by rfl) T.z_range (pa_cons (pv 1) pa_nil)) (by refine blkOk_by ?_; rfl) (fun _ _ _ _ _ => pg_name (i := 2) sc_Holder___init__.nd rfl (by first | exact Or.inl rfl | exact Or.inr rfl)) (fun _ _ _ _ _ => pts_nil) (fun _ _ _ _ _ => (pe_lst pa_nil)))))), ?_⟩)
  all_goals (try simp only [nox_K, blk_K, cx_K])
  · rintro n fs ds ⟨_, rfl, _⟩; rfl
  · rintro p F n fs ds ⟨rfl, rfl, hn⟩
    refine wp_seq (wp_fldL (ds := natL (List.replicate n 2)) rfl T.cl_Holder T.n_Holder_pebbles (by decide) (EN.of (en_rep (k := (n : Int)) (by walk_at "ev") (by walk_at "ev") (by omega) ?_) ?_) fun F' => ?_)
    · show 1 * _ ≤ _
      have : (100000 : Nat) ≤ sizeLine := by decide
      omega
    · rw [natL_eq, List.map_replicate, Int.toNat_natCast]
      induction n with
      | zero => rfl
      | succ n ih =>
        rw [List.replicate_succ, List.flatten_cons, ih (by omega), List.replicate_succ]
        rfl
    · refine wp_fldLL (dss := (List.replicate n []).map natL) rfl T.cl_Holder T.n_Holder_heads (by show 1 < 1000; decide) ?_ fun F' => ⟨_, _, rfl, rfl, ?_⟩
      · have := enn_lc (K := K) (xs := List.range n) (gd := fun k => PyData.int (k : Nat)) (f := fun _ => ([] : List D)) (te := tLst tNil) (g := gName 2) (vs := [2]) (δ := (startM N_Holder___init__ K T.C_Holder p [] F [natD n]).set 0 (hold K T.C_Holder p (putD "pebbles" (.l (natL (List.replicate n 2))) []) F')) (af := _) (wi := _) (ei_rngN (i := (n : Int)) (te := tVar 1) (ed_var rfl) rfl (by omega)) (sz_small (by rw [List.length_range]; omega)) (fun x hx => gw_name (by decide)) (fun x hx => en_lst ea_nil (by decide))
        have e : (List.range n).map (fun _ => ([] : List D)) = (List.replicate n []).map natL := by
          rw [List.map_const', List.length_range, List.map_replicate]; rfl
        rw [← e]
        exact this
      · exact hfs_put2

/-! reached -/
def enc (joint : Nat) (rest : List Peb.Pr) : List (Int × D) := ((joint : Int), .none) :: rest.map fun q => ((q.1 : Int), natD q.2)
theorem enc_len {joint : Nat} {rest : List Peb.Pr} : (enc joint rest).length = rest.length + 1 := by
  unfold enc
  rw [List.length_cons, List.length_map]
theorem enc_snoc {joint k t : Nat} {rest : List Peb.Pr} : kvD (enc joint (rest ++ [(k, t)])) = kvD (enc joint rest) ++ [(PyData.int (k : Int), natD t)] := by
  unfold enc kvD
  rw [List.map_append, List.map_cons, List.map_cons, List.map_append]
  rfl
theorem enc_keys {joint : Nat} {rest : List Peb.Pr} : (enc joint rest).map Prod.fst = (joint :: rest.map Prod.fst).map fun (n : Nat) => (n : Int) := by
  unfold enc
  rw [List.map_cons, List.map_map, List.map_cons, List.map_map]
  rfl
theorem kget_none_iff {ms : List (Int × D)} {k : Int} : kget k ms = none ↔ k ∉ ms.map Prod.fst := by
  induction ms with
  | nil => simp [kget]
  | cons q ms ih =>
    obtain ⟨j, d⟩ := q
    unfold kget
    by_cases h : j = k
    · rw [if_pos h]
      simp [h]
    · rw [if_neg h, ih]
      simp only [List.map_cons, List.mem_cons, not_or]
      exact ⟨fun z => ⟨fun q => h q.symm, z⟩, fun z => z.2⟩
theorem enc_in {joint k : Nat} {rest : List Peb.Pr} : ((k : Int) ∈ (enc joint rest).map Prod.fst) ↔ k ∈ joint :: rest.map Prod.fst := by
  rw [enc_keys, List.mem_map]
  constructor
  · rintro ⟨a, ha, e⟩
    have : a = k := by omega
    rw [← this]; exact ha
  · exact fun h => ⟨k, h, rfl⟩
theorem kget_at {ms : List (Int × D)} {i : Nat} {k : Int} {d : D} (nd : (ms.map Prod.fst).Nodup) (e : ms[i]? = some (k, d)) : kget k ms = some d := by
  induction ms generalizing i with
  | nil => cases e
  | cons q ms ih =>
    obtain ⟨j, d0⟩ := q
    obtain ⟨n1, n2⟩ := List.nodup_cons.mp nd
    unfold kget
    cases i with
    | zero =>
      have e : (j, d0) = (k, d) := Option.some.inj e
      injection e with e1 e2
      rw [if_pos e1, e2]
    | succ i =>
      have e : ms[i]? = some (k, d) := e
      have hm : k ∈ ms.map Prod.fst := List.mem_map.mpr ⟨(k, d), List.mem_of_getElem? e, rfl⟩
      rw [if_neg fun z => n1 (by rw [show (j, d0).1 = k from z]; exact hm)]
      exact ih n2 e
theorem enc_nd {joint : Nat} {rest : List Peb.Pr} (h : (joint :: rest.map Prod.fst).Nodup) : ((enc joint rest).map Prod.fst).Nodup := by
  rw [enc_keys]
  exact List.Pairwise.map _ (fun a b z e => z (by omega)) h
theorem enc_root {joint : Nat} {rest : List Peb.Pr} : kget (joint : Int) (enc joint rest) = some .none := by
  unfold enc kget
  rw [if_pos rfl]
theorem enc_get {joint i k t : Nat} {rest : List Peb.Pr} (h : (joint :: rest.map Prod.fst).Nodup) (e : rest[i]? = some (k, t)) : kget (k : Int) (enc joint rest) = some (natD t) := by
  refine kget_at (i := i + 1) (enc_nd h) ?_
  unfold enc
  rw [List.getElem?_cons_succ, List.getElem?_map, e]
  rfl
/-- what is reached, and nothing more -/
def Full (hs : List (List Nat)) (joint : Nat) (rest : List Peb.Pr) : Prop := ∀ k ∈ joint :: rest.map Prod.fst, ∀ h ∈ hs.getD k [], h ∈ joint :: rest.map Prod.fst
structure RcG where
  n : Nat
  hs : List (List Nat)
  joint : Nat
def Pre_Rch (g : RcG) (ds : List D) : Prop := ds = [.list ((g.hs.map natL).map PyData.list), natD g.joint] ∧ (∀ v h, h ∈ g.hs.getD v [] → h < g.n) ∧ g.hs.length = g.n ∧ g.joint < g.n ∧ g.n ≤ 1000 ∧ ∀ v, (g.hs.getD v []).length ≤ 1000
def Post_Rch (g : RcG) (d : D) : Prop := ∃ rest, d = .dict (kvD (enc g.joint rest)) ∧ Peb.Rch g.n g.hs g.joint rest ∧ Full g.hs g.joint rest
theorem ok_reached (T : Txt K mg) (B : Lams T base w) : FnOk P w K mg base CX0 1 T.f_reached T.fd_reached ["ways", "start"] (spG K Pre_Rch Post_Rch) := by
  refine ok_wpG T.F_reached sc_reached ?_ (fun cdv hcv A outer s H E hr => ⟨_, (pss_cons (ps_set (i := 2) sc_reached.nd rfl (by first | exact Or.inl rfl | exact Or.inr rfl) (pe_disp (pps_cons (pv 1) pe_non pps_nil) (by rfl) (by rfl) (fun z => by cases z) (by decide)))
      (pss_cons (ps_set (i := 3) sc_reached.nd rfl (by first | exact Or.inl rfl | exact Or.inr rfl) (pe_lst (pa_cons (pv 1) pa_nil)))
      (pss_cons (ps_while PassesOwn.never (kpt_truth (K := K) (pv 3) (by intro _; rfl)) (pss_cons (ps_set (i := 4) sc_reached.nd rfl (by first | exact Or.inl rfl | exact Or.inr rfl) (pe_bm0 PySem.F.plainAttrs_list PySem.F.slot_list_pop PySem.F.type_list_pop mt_pop (pv 3)))
      (pss_one (ps_for PassesOwn.never rfl (kpi_seq (K := K) (pe_ix (kx_ix (K := K)) (pv 0) (pv 4) (fun _ _ => rfl))) (pg_name (i := 5) sc_reached.nd rfl (by first | exact Or.inl rfl | exact Or.inr rfl))
      (pss_one (ps_if (pt_cmp (pc_dnotin (hu_of hr) (pv 5) (pv 2))) (pss_cons (ps_dput (hu_of hr) (pv 2) (pv 5) (pv 4) rfl)
      (pss_one (ps_expr (pe_bm PySem.F.plainAttrs_list PySem.F.slot_list_append PySem.F.type_list_append mt_append (pv 3) (pa_cons (pv 5) pa_nil))))) pss_nil))))))
      (pss_one (ps_ret (pv 2)))))), ?_⟩)
  all_goals (try simp only [nox_K, blk_K, cx_K])
  · rintro g ds ⟨rfl, _⟩; rfl
  · rintro ⟨n, hs, joint⟩ ds ⟨rfl, hr0, hl, hj, hn, hd2⟩
    simp only at hr0 hl hj hn hd2
    have root : Peb.Rch n hs joint [] := ⟨by simp, fun k hk => by rw [List.mem_singleton.mp hk]; exact hj, fun i k t e => by cases e⟩
    refine wp_seq (wp_asgDisp1 (d := .none) (k := (joint : Int)) (by walk_at "ev") (by walk_at "ev") ?_)
    refine wp_seq (wp_asgN (ds := natL [joint]) (EN.of (ds := [natD joint]) (by walk_at "ev") rfl) ?_)
    refine wp_seq (wp_while (fun m δ => ∃ (rest : List Peb.Pr) (w : List Nat) (a b : SV), δ = [.val (.list ((hs.map natL).map PyData.list)), .val (natD joint), .own (.m (kvD (enc joint rest))), .own (.l (natL w)), a, b] ∧ Peb.Rch n hs joint rest ∧ (∀ x ∈ w, x ∈ joint :: rest.map Prod.fst) ∧
      (∀ k ∈ joint :: rest.map Prod.fst, k ∉ w → ∀ h ∈ hs.getD k [], h ∈ joint :: rest.map Prod.fst) ∧ m = 2 * (n - rest.length) + w.length ∧ m ≤ 2 * n + 1) (n := _) ⟨[], [joint], _, _, rfl, root, fun x hx => hx, fun k hk nk => absurd hk nk, rfl, Nat.le_refl _⟩ ?_)
    rintro m δ ⟨rest, w, a, b, rfl, rc, hw, hfull, rfl, hm0⟩
    refine ⟨!w.isEmpty, ET.of (et_truthOwn rfl) (by rw [natL_eq]; cases w <;> rfl), fun h => ?_, fun h => ?_⟩
    · rcases List.eq_nil_or_concat w with rfl | ⟨w', t, rfl⟩
      · cases h
      rw [List.concat_eq_append] at *
      have ht : t ∈ joint :: rest.map Prod.fst := hw t (List.mem_append_right _ (List.mem_singleton.mpr rfl))
      have htn := rc.lt t ht
      have htl : t < hs.length := by omega
      refine wp_seq (wp_pop (ds := natL w') (d := natD t) (by rw [natL_app]; rfl) ?_)
      have hi : itemD (.list ((hs.map natL).map PyData.list)) (t : Int) = some (.list ((hs.getD t []).map natD)) := by
        refine atI_nat ?_
        rw [List.getElem?_map, hfs_get htl, natL_eq]; rfl
      refine wp_forG (xs := hs.getD t []) (g := natD) (fun k δ => ∃ (rest' : List Peb.Pr) (w'' : List Nat) (b : SV), δ = [.val (.list ((hs.map natL).map PyData.list)), .val (natD joint), .own (.m (kvD (enc joint rest'))), .own (.l (natL w'')), .val (natD t), b] ∧ Peb.Rch n hs joint rest' ∧ (∀ x ∈ w'', x ∈ joint :: rest'.map Prod.fst) ∧
        (∀ k ∈ joint :: rest'.map Prod.fst, k ∉ w'' → k = t ∨ ∀ h ∈ hs.getD k [], h ∈ joint :: rest'.map Prod.fst) ∧ (∀ h ∈ (hs.getD t []).take k, h ∈ joint :: rest'.map Prod.fst) ∧ t ∈ joint :: rest'.map Prod.fst ∧ 2 * (n - rest'.length) + w''.length ≤ 2 * (n - rest.length) + w'.length)
        (ei_seq (ed_ix (ed_var rfl) (ed_var rfl) hi) rfl) ⟨rest, w', _, rfl, rc, fun x hx => hw x (List.mem_append_left _ hx), fun k hk nk => ?_, fun h hh => (by rw [List.take_zero] at hh; cases hh), ht, Nat.le_refl _⟩ ?_ ?_
      · by_cases e : k = t
        · exact .inl e
        · exact .inr (hfull k hk fun z => (List.mem_append.mp z).elim nk fun z => e (List.mem_singleton.mp z))
      · rintro k x δ ex ⟨rest', w'', b, rfl, rc', hw', hf', htk, ht', hm'⟩
        have hx : x ∈ hs.getD t [] := List.mem_of_getElem? ex
        have hxn := hr0 t x hx
        have hlen := rc'.len
        refine wp_if (b := (kget (x : Int) (enc joint rest')).isNone) (et_B (ed_dnotinOwn (i := 2) rfl (ed_var rfl))) (fun h => ?_) (fun h => ?_)
        · have hne : x ∉ joint :: rest'.map Prod.fst := fun z => by
            have := kget_none_iff.mp (Option.isNone_iff_eq_none.mp h)
            exact this (enc_in.mpr z)
          refine wp_seq (wp_dputNew (d := natD t) (k := (x : Int)) rfl (by walk_at "ev") (by walk_at "ev") ?_ ?_ ?_)
          · rintro q hq e
            obtain ⟨q0, hq0, rfl⟩ := List.mem_map.mp hq
            have e : q0.1 = (x : Int) := by injection e
            exact hne (enc_in.mp (List.mem_map.mpr ⟨q0, hq0, e⟩))
          · unfold kvD
            rw [List.length_map, enc_len]
            exact small1000 (by omega)
          refine wp_app (d := natD x) rfl (by walk_at "ev") ?_ ?_
          · rw [natL_len]
            have h1 : (100000 : Nat) ≤ sizeLine := by decide
            have h2 : w''.length ≤ 2 * (n - rest.length) + w'.length := by omega
            have h3 := rc.len
            rw [List.length_append] at hm0
            have h4 : [t].length = 1 := rfl
            omega
          · refine ⟨rest' ++ [(x, t)], w'' ++ [x], _, by rw [enc_snoc, natL_app]; rfl, rc'.add hxn hne ht' hx, fun y hy => ?_, fun y hy ny => ?_, fun y hy => ?_, ?_, ?_⟩
            all_goals (try rw [show joint :: (rest' ++ [(x, t)]).map Prod.fst = (joint :: rest'.map Prod.fst) ++ [x] from by rw [List.map_append]; rfl] at *)
            · rcases List.mem_append.mp hy with z | z
              · exact List.mem_append_left _ (hw' y z)
              · exact List.mem_append_right _ z
            · rcases List.mem_append.mp hy with z | z
              · rcases hf' y z (fun q => ny (List.mem_append_left _ q)) with q | q
                · exact .inl q
                · exact .inr fun h hh => List.mem_append_left _ (q h hh)
              · exact absurd (List.mem_append_right _ z) ny
            · rw [List.take_add_one, ex] at hy
              rcases List.mem_append.mp hy with z | z
              · exact List.mem_append_left _ (htk y z)
              · exact List.mem_append_right _ z
            · exact List.mem_append_left _ ht'
            · rw [List.length_append, List.length_append]
              show 2 * (n - (_ + 1)) + (_ + 1) ≤ _
              omega
        · have hin : x ∈ joint :: rest'.map Prod.fst := Classical.byContradiction fun z => by
            have := kget_none_iff.mpr (fun q => z (enc_in.mp q) : (x : Int) ∉ (enc joint rest').map Prod.fst)
            rw [this] at h
            cases h
          refine wp_next ⟨rest', w'', _, rfl, rc', hw', hf', fun y hy => ?_, ht', hm'⟩
          rw [List.take_add_one, ex] at hy
          rcases List.mem_append.mp hy with z | z
          · exact htk y z
          · rw [List.mem_singleton.mp z]; exact hin
      · rintro δ ⟨rest', w'', b, rfl, rc', hw', hf', htk, ht', hm'⟩
        rw [List.take_length] at htk
        rw [List.length_append] at hm0
        have h4 : [t].length = 1 := rfl
        refine ⟨_, ?_, rest', w'', _, _, rfl, rc', hw', fun k hk nk => ?_, rfl, by omega⟩
        · rw [List.length_append]
          show _ < _ + (_ + 1)
          omega
        · rcases hf' k hk nk with rfl | z
          · exact htk
          · exact z
    · have hw0 : w = [] := by
        cases w with
        | nil => rfl
        | cons x w => cases h
      subst hw0
      refine wp_freezeD 2 rfl (wp_ret (ed_var rfl) ⟨rest, rfl, rc, fun k hk => hfull k hk (fun z => by cases z)⟩)

/-! pass_on -/
theorem erase_at {l : List Nat} {c : Nat} (h : c ∈ l) : ∃ z, l[z]? = some c ∧ (∀ m : Nat, m < z → l[m]? ≠ some c) ∧ l.eraseIdx z = l.erase c := by
  induction l with
  | nil => cases h
  | cons x l ih =>
    by_cases e : x = c
    · subst e
      exact ⟨0, rfl, fun m hm => absurd hm (by omega), by rw [List.erase_cons_head]; rfl⟩
    · obtain ⟨z, h1, h2, h3⟩ := ih ((List.mem_cons.mp h).resolve_left fun q => e q.symm)
      refine ⟨z + 1, h1, fun m hm => ?_, by rw [List.eraseIdx_cons_succ, h3, List.erase_cons_tail (by simpa using e)]⟩
      cases m with
      | zero => exact fun q => e (Option.some.inj q)
      | succ m => exact h2 m (by omega)
structure PsG where
  n : Nat
  ps : List Nat
  hs : List (List Nat)
  tk : List Peb.Pr
  g : Nat
  root : Nat
  rest : List Peb.Pr
def PsG.mid (g : PsG) : List Nat := g.ps.set g.g (g.ps.getD g.g 0 - 1)
def PsG.fin (g : PsG) : List Nat := g.mid.set g.root (g.mid.getD g.root 0 + 1)
def Pre_Pass (g : PsG) (fs : FM) (ds : List D) : Prop := fs = hfs g.ps g.hs ∧ ds = [natD g.g, .dict (kvD (enc g.root g.rest))] ∧ Peb.Inv g.n g.ps g.hs g.tk ∧ Peb.Rch g.n g.hs g.root g.rest ∧ g.g ∈ g.root :: g.rest.map Prod.fst ∧ 0 < g.ps.getD g.g 0 ∧ g.n ≤ 1000
def Post_Pass (g : PsG) (d : D) (fs : FM) : Prop := d = .none ∧ ∃ hs', fs = hfs g.fin hs' ∧ Peb.Inv g.n g.fin hs' g.tk
theorem small_heads {n : Nat} {ps : List Nat} {hs : List (List Nat)} {tk : List Peb.Pr} {f : Nat → Nat} (I : Peb.InvX n ps hs tk f) (hf : ∀ v, f v ≤ 2) (v : Nat) : (hs.getD v []).length ≤ 2 := by
  by_cases h : v < n
  · have := I.deg v h
    have := hf v
    omega
  · rw [List.getD_eq_getElem?_getD, List.getElem?_eq_none (by rw [I.hl]; omega)]
    exact Nat.zero_le _
theorem lack_le (c v : Nat) : Peb.lack c v ≤ 2 := by
  unfold Peb.lack
  split <;> omega
theorem eraseIdx_mapD {α β : Type} {f : α → β} : ∀ {l : List α} {z : Nat}, (l.map f).eraseIdx z = (l.eraseIdx z).map f
  | [], _ => rfl
  | x :: l, 0 => rfl
  | x :: l, z + 1 => by
    rw [List.map_cons, List.eraseIdx_cons_succ, List.eraseIdx_cons_succ, List.map_cons, eraseIdx_mapD]
theorem natI_get {h : List Nat} {z c : Nat} : (h.map fun (n : Nat) => (n : Int))[z]? = some (c : Int) ↔ h[z]? = some c := by
  rw [List.getElem?_map]
  cases h[z]? with
  | none => simp
  | some x =>
    constructor
    · intro e
      have e : (x : Int) = c := Option.some.inj e
      rw [show x = c by omega]
    · intro e
      rw [Option.some.inj e]; rfl
theorem ok_Holder_pass_on (T : Txt K mg) (B : Lams T base w) : FnOk P w K mg base CX0 1 T.f_Holder_pass_on T.fd_Holder_pass_on ["self", "joint", "before"] (spM K T.C_Holder Pre_Pass Post_Pass) := by
  refine ok_wpM T.F_Holder_pass_on sc_Holder_pass_on (by decide) ?_ (fun cdv hcv A outer s H E hr => ⟨_, (pss_cons (ps_augS (kpe_fld (K := K) (pv 0)) (pv 1) (pget_list (K := K)) pe_int ip_sub set_list)
      (pss_cons (ps_while PassesOwn.never (pt_cmpR op_notNQ (pe_dget (hu_of hr) (pv 2) (pv 1) (fun _ _ => rfl)) pe_non (nomark _)) (pss_cons (ps_set (i := 3) sc_Holder_pass_on.nd rfl (by first | exact Or.inl rfl | exact Or.inr rfl) (pe_dget (hu_of hr) (pv 2) (pv 1) (fun _ _ => rfl)))
      (pss_cons (ps_expr (pe_bm PySem.F.plainAttrs_list PySem.F.slot_list_remove PySem.F.type_list_remove mt_remove (pe_ix (kx_ix (K := K)) (kpe_fld (K := K) (pv 0)) (pv 3) (fun _ _ => rfl)) (pa_cons (pv 1) pa_nil)))
      (pss_cons (ps_expr (pe_bm PySem.F.plainAttrs_list PySem.F.slot_list_append PySem.F.type_list_append mt_append (pe_ix (kx_ix (K := K)) (kpe_fld (K := K) (pv 0)) (pv 1) (fun _ _ => rfl)) (pa_cons (pv 3) pa_nil)))
      (pss_one (ps_set (i := 1) sc_Holder_pass_on.nd rfl (by first | exact Or.inl rfl | exact Or.inr rfl) (pv 3)))))))
      (pss_one (ps_augS (kpe_fld (K := K) (pv 0)) (pv 1) (pget_list (K := K)) pe_int ip_add set_list)))), ?_⟩)
  all_goals (try simp only [nox_K, blk_K, cx_K])
  · rintro g fs ds ⟨_, rfl, _⟩; rfl
  · rintro p F g fs ds ⟨rfl, rfl, I, rc, hg, h1, hn⟩
    have hgn := rc.lt _ hg
    have hpl := I.pl
    refine wp_seq (wp_bigAug (k := (g.g : Int)) (j := g.g) (a0 := (g.ps.getD g.g 0 : Nat)) (b0 := 1) (ds := natL g.ps) rfl hfs_p T.cl_Holder T.n_Holder_pebbles (ed_var rfl) (ix_nat (by rw [natL_len]; omega)) (natL_get (by omega)) (by walk_at "ev") ?_)
    have e1 : (natL g.ps).set g.g (.int ((g.ps.getD g.g 0 : Nat) - 1)) = natL g.mid := by
      unfold PsG.mid
      rw [natL_set]
      congr 2
      omega
    rw [e1, hfs_putp]
    have I1 := Peb.InvX.start I hgn h1
    obtain ⟨m0, hm0⟩ := List.mem_iff_getElem?.mp hg
    refine wp_seq (wp_while (fun m δ => ∃ (hs' : List (List Nat)) (c : Nat) (a : SV), δ = [hold K T.C_Holder p (hfs g.mid hs') F, .val (natD c), .val (.dict (kvD (enc g.root g.rest))), a] ∧ (g.root :: g.rest.map Prod.fst)[m]? = some c ∧ Peb.InvX g.n g.mid hs' g.tk (Peb.lack c) ∧
      ∀ v ∈ (g.root :: g.rest.map Prod.fst).take m, hs'.getD v [] = g.hs.getD v []) (n := m0) ⟨g.hs, g.g, _, rfl, hm0, I1, fun v _ => rfl⟩ ?_)
    rintro m δ ⟨hs', c, a, rfl, hc, I2, hv⟩
    have hcm : c ∈ g.root :: g.rest.map Prod.fst := List.mem_of_getElem? hc
    have hcn := rc.lt _ hcm
    have hhl := I2.hl
    have hpl2 := I2.pl
    cases m with
    | zero =>
      have hc : g.root = c := Option.some.inj hc
      subst hc
      refine ⟨false, ET.of (b := !isNone .none) (by repeat' first | exact ed_dget (ed_var rfl) (ed_var rfl) enc_root | walk_at "ev2" | fail) rfl, fun h => (by cases h), fun _ => ?_⟩
      refine wp_bigAug (k := (g.root : Int)) (j := g.root) (a0 := (g.mid.getD g.root 0 : Nat)) (b0 := 1) (ds := natL g.mid) rfl hfs_p T.cl_Holder T.n_Holder_pebbles (ed_var rfl) (ix_nat (by rw [natL_len]; omega)) (natL_get (by omega)) (by walk_at "ev") ?_
      have e2 : (natL g.mid).set g.root (.int ((g.mid.getD g.root 0 : Nat) + 1)) = natL g.fin := by
        unfold PsG.fin
        rw [natL_set]
        rfl
      rw [e2, hfs_putp]
      exact ⟨_, F, rfl, rfl, hs', rfl, Peb.InvX.stop I2 hcn⟩
    | succ i =>
      have hc : (g.rest.map Prod.fst)[i]? = some c := hc
      rw [List.getElem?_map] at hc
      cases er : g.rest[i]? with
      | none => rw [er] at hc; cases hc
      | some q =>
        obtain ⟨c', t⟩ := q
        rw [er] at hc
        have hc : c' = c := Option.some.inj hc
        subst hc
        obtain ⟨ht, hct⟩ := rc.par i c' t er
        have hget := enc_get rc.nd er
        have htm : t ∈ (g.root :: g.rest.map Prod.fst).take (i + 1) := by
          rw [List.take_succ_cons, ← List.map_take]; exact ht
        have hmt : c' ∈ hs'.getD t [] := by rw [hv t htm]; exact hct
        obtain ⟨m', hm', hmt'⟩ : ∃ m', m' < i + 1 ∧ (g.root :: g.rest.map Prod.fst)[m']? = some t := by
          obtain ⟨m', e'⟩ := List.mem_iff_getElem?.mp htm
          have hlt : m' < i + 1 := by
            have := (List.getElem?_eq_some_iff.mp e').1
            rw [List.length_take] at this
            omega
          rw [List.getElem?_take_of_lt hlt] at e'
          exact ⟨m', hlt, e'⟩
        have htn := rc.lt t (List.mem_of_getElem? hmt')
        have hkc : (g.root :: g.rest.map Prod.fst)[i + 1]? = some c' := by
          rw [List.getElem?_cons_succ, List.getElem?_map, er]; rfl
        have htc : t ≠ c' := fun e => by
          subst e
          have := (List.getElem?_inj (by have := (List.getElem?_eq_some_iff.mp hmt').1; exact this) rc.nd).mp (hmt'.trans hkc.symm)
          omega
        refine ⟨true, ET.of (b := !isNone (natD t)) (by repeat' first | exact ed_dget (ed_var rfl) (ed_var rfl) hget | walk_at "ev2" | fail) rfl, fun _ => ?_, fun h => by cases h⟩
        refine wp_seq (wp_asg (d := natD t) (ed_dget (ed_var rfl) (ed_var rfl) hget) ?_)
        obtain ⟨z, z1, z2, z3⟩ := erase_at hmt
        refine wp_seq (wp_bigRem (k := (t : Int)) (j := t) (z := z) (ns := (hs'.getD t []).map fun (n : Nat) => (n : Int)) (r0 := (c' : Int)) rfl hfs_h T.cl_Holder T.n_Holder_heads (ed_var rfl) (ix_nat (by rw [List.length_map]; omega)) (hfs_get (by omega)) (ed_var rfl) (natI_get.mpr z1) (fun m hm q => z2 m hm (natI_get.mp q)) ?_)
        have e3 : (((hs'.getD t []).map fun (n : Nat) => (n : Int)).eraseIdx z).map PyData.int = natL ((hs'.getD t []).erase c') := by
          unfold natL
          rw [← z3, eraseIdx_mapD]
        rw [e3, hfs_set, hfs_puth]
        generalize hh1 : hs'.set t ((hs'.getD t []).erase c') = h1' at *
        have l1 : h1'.length = g.n := by rw [← hh1, List.length_set]; exact hhl
        refine wp_seq (wp_bigApp (k := (c' : Int)) (j := c') (d := natD t) rfl hfs_h T.cl_Holder T.n_Holder_heads (ed_var rfl) (ix_nat (by rw [List.length_map]; omega)) (hfs_get (by omega)) (ed_var rfl) ?_ ?_)
        · rw [natL_len, ← hh1, Peb.getD_set (by omega), if_neg fun q => htc q.symm]
          have := small_heads I2 (lack_le _) c'
          exact small1000 (by omega)
        · have e4 : natL (h1'.getD c' []) ++ [natD t] = natL (h1'.getD c' [] ++ [t]) := by rw [natL_app]; rfl
          rw [e4, hfs_set, hfs_puth]
          have I3 := Peb.InvX.turn I2 htn hcn htc hmt
          rw [hh1] at I3
          refine wp_asg (d := natD t) (ed_var rfl) ⟨m', hm', h1'.set c' (h1'.getD c' [] ++ [t]), t, _, rfl, hmt', I3, fun v hv2 => ?_⟩
          have hv3 : v ∈ (g.root :: g.rest.map Prod.fst).take (i + 1) := by
            have : (g.root :: g.rest.map Prod.fst).take m' = ((g.root :: g.rest.map Prod.fst).take (i + 1)).take m' := by rw [List.take_take, Nat.min_eq_left (by omega)]
            rw [this] at hv2
            exact List.mem_of_mem_take hv2
          obtain ⟨q, eq⟩ := List.mem_iff_getElem?.mp hv2
          have hq : q < m' := by
            have := (List.getElem?_eq_some_iff.mp eq).1
            rw [List.length_take] at this
            omega
          rw [List.getElem?_take_of_lt hq] at eq
          have nvt : v ≠ t := fun e => by
            subst e
            have := (List.getElem?_inj (by have := (List.getElem?_eq_some_iff.mp eq).1; exact this) rc.nd).mp (eq.trans hmt'.symm)
            omega
          have nvc : v ≠ c' := fun e => by
            subst e
            have := (List.getElem?_inj (by have := (List.getElem?_eq_some_iff.mp eq).1; exact this) rc.nd).mp (eq.trans hkc.symm)
            omega
          rw [Peb.getD_set (by omega), if_neg nvc, ← hh1, Peb.getD_set (by omega), if_neg nvt]
          exact hv v hv3

theorem kn_heads {ps : List Nat} {hs : List (List Nat)} : (("heads" : Str), PyData.list ((hs.map natL).map PyData.list)) ∈ kn (hfs ps hs) := List.mem_cons_of_mem _ (List.mem_cons_self ..)
/-! bring -/
structure BrG where
  n : Nat
  ps : List Nat
  hs : List (List Nat)
  tk : List Peb.Pr
  joint : Nat
  other : Nat
structure BrG.Ok (g : BrG) : Prop where
  inv : Peb.Inv g.n g.ps g.hs g.tk
  jn : g.joint < g.n
  on : g.other < g.n
  ne : g.joint ≠ g.other
  nh : g.n ≤ 1000
def Stuck (n : Nat) (ps : List Nat) (hs : List (List Nat)) (joint other : Nat) : Prop := ∃ rest, Peb.Rch n hs joint rest ∧ Full hs joint rest ∧ ∀ k ∈ joint :: rest.map Prod.fst, k ≠ joint → k ≠ other → ps.getD k 0 = 0
def Pre_Bring (g : BrG) (fs : FM) (ds : List D) : Prop := fs = hfs g.ps g.hs ∧ ds = [natD g.joint, natD g.other] ∧ g.Ok
def Post_Bring (g : BrG) (d : D) (fs : FM) : Prop := (d = .bool false ∧ fs = hfs g.ps g.hs ∧ Stuck g.n g.ps g.hs g.joint g.other) ∨
  (d = .bool true ∧ ∃ ps' hs', fs = hfs ps' hs' ∧ Peb.Inv g.n ps' hs' g.tk ∧ ps'.getD g.joint 0 = g.ps.getD g.joint 0 + 1 ∧ ps'.getD g.other 0 = g.ps.getD g.other 0)
theorem thin_enc {joint : Nat} {rest : List Peb.Pr} : Thin (.dict (kvD (enc joint rest))) := fun p hp => by
  obtain ⟨q, hq, rfl⟩ := List.mem_map.mp hp
  unfold enc at hq
  rcases List.mem_cons.mp hq with rfl | hq
  · exact ⟨True.intro, True.intro⟩
  · obtain ⟨r, _, rfl⟩ := List.mem_map.mp hq
    exact ⟨True.intro, True.intro⟩
def giveP (ps : List Nat) (joint other : Nat) (x : Int) : Bool := (!decide (x ∈ [(joint : Int), (other : Int)])) && decide ((ps.getD x.toNat 0 : Int) > 0)
theorem ok_Holder_bring (T : Txt K mg) (B : Lams T base w) : FnOk P w K mg base CX0 2 T.f_Holder_bring T.fd_Holder_bring ["self", "joint", "other"] (spM K T.C_Holder Pre_Bring Post_Bring) := by
  refine ok_wpM T.F_Holder_bring sc_Holder_bring (by decide) ?_ (fun cdv hcv A outer s H E hr => ⟨_, (pss_cons (ps_set (i := 3) sc_Holder_bring.nd rfl (by first | exact Or.inl rfl | exact Or.inr rfl) (pe_call (ok_reached T B) (hr.mono (by decide)) (by rfl) T.g_reached T.F_reached.kp T.b_reached .nil pass0 (pa_cons (kpe_fld (K := K) (pv 0)) (pa_cons (pv 1) pa_nil))))
      (pss_cons (ps_lk (ps_setLc (i := 4) (own := [("place", 5)]) (by rfl) sc_Holder_bring.nd rfl rfl (sw_true rfl rfl rfl rfl) (pi_keys (pv 3)) (by refine blkOk_by ?_; rfl) (fun _ _ _ _ _ => pg_name (i := 5) sc_Holder_bring.nd rfl (by first | exact Or.inl rfl | exact Or.inr rfl)) (fun _ _ _ _ _ => pts_one (PW.pt (pw_and (pt_cmpR (kx_notin (K := K)) (pv 5) (pe_tup (pa_cons (pv 1) (pa_cons (pv 2) pa_nil))) (by rfl)) (pw_and1 (pt_cmpR op_gt (pe_ix (kx_ix (K := K)) (kpe_fld (K := K) (pv 0)) (pv 5) (fun _ _ => rfl)) pe_int (nomark _)))))) (fun _ _ _ _ _ => (pv 5))))
      (pss_cons (ps_if (pt_not (kpt_truth (K := K) (pv 4) (by intro _; rfl))) (pss_one (ps_ret pe_bl)) pss_nil)
      (pss_cons (ps_expr (pe_meth (pv 0) T.cl_Holder T.m_Holder_pass_on (ok_Holder_pass_on T B) (hr.mono (by decide)) T.b_Holder_pass_on .nil pass0 (pa_cons (pe_ix (kx_ix (K := K)) (pv 4) pe_int (fun _ _ => rfl)) (pa_cons (pv 3) pa_nil))))
      (pss_one (ps_ret pe_bl)))))), ?_⟩)
  all_goals (try simp only [nox_K, blk_K, cx_K])
  · rintro g fs ds ⟨_, rfl, _⟩; rfl
  · rintro p F g fs ds ⟨rfl, rfl, ok⟩
    obtain ⟨I, jn, on, ne, nh⟩ := ok
    have hpl := I.pl
    refine wp_seq (wp_asgP (ep_frz (i := 0) rfl hfs_noM hfs_nd (ep_callG (Pre := Pre_Rch) (Post := Post_Rch) (⟨g.n, g.hs, g.joint⟩ : RcG) (ds := [.list ((g.hs.map natL).map PyData.list), natD g.joint]) (ea_cons (ed_fld (i := 0) rfl kn_heads T.cl_Holder T.n_Holder_heads) (ea_cons (ed_var rfl) ea_nil)) ⟨rfl, I.rng, I.hl, jn, nh, fun v => ?_⟩) (fun d hd => ?_)) fun d hd => ?_)
    · have := small_heads I (fun _ => Nat.le_refl _) v
      exact Nat.le_trans this (by decide)
    · obtain ⟨rest, rfl, _⟩ := hd
      exact thin_enc
    obtain ⟨rest, rfl, rc, full⟩ := hd
    simp only at rc full
    have hlen := rc.len
    refine wp_seq (wp_lkN (ds := (((enc g.joint rest).map Prod.fst).filter (giveP g.ps g.joint g.other)).map PyData.int) (en_lcKeys (p := giveP g.ps g.joint g.other) (f := PyData.int) (ms := enc g.joint rest) rfl (by rw [enc_len]; exact small1000 (by omega)) (fun x hx => gw_name (by decide)) (fun x hx => ?_) fun x hx _ => ed_var rfl) ?_)
    · rw [enc_keys] at hx
      obtain ⟨k, hk, rfl⟩ := List.mem_map.mp hx
      have hkn := rc.lt k hk
      exact et_and (ET.of (et_test (ed_notin (ns := [(g.joint : Int), (g.other : Int)]) (ed_var rfl) (y := .tuple [natD g.joint, natD g.other]) (by walk_at "ev") rfl)) rfl) fun _ => ET.of (b := decide ((g.ps.getD k 0 : Int) > 0)) (by repeat' first | exact ed_bigIx rfl hfs_p T.cl_Holder T.n_Holder_pebbles (ed_var rfl) (natL_at (by omega)) | walk_at "ev2" | fail) (by rw [Int.toNat_natCast])
    generalize hgv : ((enc g.joint rest).map Prod.fst).filter (giveP g.ps g.joint g.other) = gv
    have hin : ∀ x : Int, x ∈ gv ↔ ∃ k : Nat, x = (k : Int) ∧ k ∈ g.joint :: rest.map Prod.fst ∧ k ≠ g.joint ∧ k ≠ g.other ∧ 0 < g.ps.getD k 0 := fun x => by
      rw [← hgv, List.mem_filter, enc_keys, List.mem_map]
      constructor
      · rintro ⟨⟨k, hk, rfl⟩, hp⟩
        unfold giveP at hp
        rw [Int.toNat_natCast, Bool.and_eq_true] at hp
        obtain ⟨h1, h2⟩ := hp
        have h2 := of_decide_eq_true h2
        simp only [Bool.not_eq_true', decide_eq_false_iff_not, List.mem_cons, List.not_mem_nil, or_false, not_or] at h1
        exact ⟨k, rfl, hk, by omega, by omega, by omega⟩
      · rintro ⟨k, rfl, hk, h1, h2, h3⟩
        refine ⟨⟨k, hk, rfl⟩, ?_⟩
        unfold giveP
        rw [Int.toNat_natCast, Bool.and_eq_true]
        refine ⟨?_, decide_eq_true (by omega)⟩
        simp only [Bool.not_eq_true', decide_eq_false_iff_not, List.mem_cons, List.not_mem_nil, or_false, not_or]
        omega
    refine wp_seq (wp_if (b := gv.isEmpty) (ET.of (et_not (et_truthOwn rfl)) (by rw [Bool.not_not]; cases gv <;> rfl)) (fun h => ?_) (fun h => wp_next ?_))
    · refine wp_retS ed_bl ⟨_, F, rfl, .inl ⟨rfl, rfl, rest, rc, full, fun k hk h1 h2 => ?_⟩⟩
      have : gv = [] := List.isEmpty_iff.mp h
      refine Nat.eq_zero_of_not_pos fun h3 => ?_
      have := (hin (k : Int)).mpr ⟨k, rfl, hk, h1, h2, h3⟩
      rw [List.isEmpty_iff.mp h] at this
      cases this
    · obtain ⟨x, gv', rfl⟩ : ∃ x gv', gv = x :: gv' := by
        cases gv with
        | nil => cases h
        | cons x gv' => exact ⟨x, gv', rfl⟩
      obtain ⟨k, rfl, hk, h1, h2, h3⟩ := (hin x).mp (List.mem_cons_self ..)
      refine wp_seq (wp_dropX (ex_meth (Pre := Pre_Pass) (Post := Post_Pass) (⟨g.n, g.ps, g.hs, g.tk, k, g.joint, rest⟩ : PsG) (i := 0) rfl (ds := [natD k, .dict (kvD (enc g.joint rest))]) (ea_cons (ed_ixOwn (i := 0) rfl (by walk_at "ev") (show atI (List.map PyData.int ((k : Int) :: gv')) ((0 : Nat) : Int) = some (natD k) from atI_map rfl)) (ea_cons (ed_var rfl) ea_nil)) ⟨rfl, rfl, I, rc, hk, h3, nh⟩ (fget_none (by rw [hfs_keys]; decide +kernel))) fun d δ' hd => ?_)
      obtain ⟨fs', F', rfl, _, hs', rfl, I'⟩ := hd
      refine wp_retS ed_bl ⟨_, F', rfl, .inr ⟨rfl, _, hs', rfl, I', ?_, ?_⟩⟩
      · have hkn := rc.lt k hk
        unfold PsG.fin PsG.mid
        simp only
        rw [Peb.getD_set (by rw [List.length_set]; omega), if_pos rfl, Peb.getD_set (by omega), if_neg fun z => h1 z.symm]
      · unfold PsG.fin PsG.mid
        simp only
        rw [Peb.getD_set (by rw [List.length_set]; omega), if_neg fun z => ne z.symm, Peb.getD_set (by have := rc.lt k hk; omega), if_neg fun z => h2 z.symm]
/-! take -/
structure BrG.Tk (g : BrG) : Prop extends g.Ok where
  ind : Peb.Ind g.n g.tk
def Pre_Room (g : BrG) (fs : FM) (ds : List D) : Prop := fs = hfs g.ps g.hs ∧ ds = [natD g.joint, natD g.other] ∧ g.Tk
def Post_Room (g : BrG) (d : D) (fs : FM) : Prop := ∃ ps' hs', fs = hfs ps' hs' ∧ d = .bool (decide (Peb.Ind g.n (g.tk ++ [(g.joint, g.other)]))) ∧ Peb.Inv g.n ps' hs' g.tk ∧ (Peb.Ind g.n (g.tk ++ [(g.joint, g.other)]) → 4 ≤ ps'.getD g.joint 0 + ps'.getD g.other 0)
theorem stuck_no {n i j : Nat} {ps : List Nat} {hs : List (List Nat)} {tk : List Peb.Pr} (I : Peb.Inv n ps hs tk) (hi : i < n) (hj : j < n) (hij : i ≠ j) (h1 : Stuck n ps hs i j) (h2 : Stuck n ps hs j i) (h3 : ps.getD i 0 + ps.getD j 0 < 4) : ¬ Peb.Ind n (tk ++ [(i, j)]) := by
  obtain ⟨r1, rc1, f1, z1⟩ := h1
  obtain ⟨r2, rc2, f2, z2⟩ := h2
  refine Peb.Inv.no I hi hj hij (fun v => decide (v ∈ i :: r1.map Prod.fst) || decide (v ∈ j :: r2.map Prod.fst)) ?_ ?_ (fun v h hv hm => ?_) (fun v hv a b => ?_) h3
  · simp
  · simp
  · rcases Bool.or_eq_true_iff.mp hv with z | z
    · exact Bool.or_eq_true_iff.mpr (.inl (decide_eq_true (f1 v (of_decide_eq_true z) h hm)))
    · exact Bool.or_eq_true_iff.mpr (.inr (decide_eq_true (f2 v (of_decide_eq_true z) h hm)))
  · rcases Bool.or_eq_true_iff.mp hv with z | z
    · exact z1 v (of_decide_eq_true z) a b
    · exact z2 v (of_decide_eq_true z) b a
theorem ok_Holder_has_room (T : Txt K mg) (B : Lams T base w) : FnOk P w K mg base CX0 3 T.f_Holder_has_room T.fd_Holder_has_room ["self", "i", "j"] (spM K T.C_Holder Pre_Room Post_Room) := by
  refine ok_wpM T.F_Holder_has_room sc_Holder_has_room (by decide) ?_ (fun cdv hcv A outer s H E hr => ⟨_, (pss_cons (ps_while PassesOwn.never (pt_cmpR op_lt (pe_op op_add (pe_ix (kx_ix (K := K)) (kpe_fld (K := K) (pv 0)) (pv 1) (fun _ _ => rfl)) (pe_ix (kx_ix (K := K)) (kpe_fld (K := K) (pv 0)) (pv 2) (fun _ _ => rfl))) pe_int (nomark _)) (pss_one (ps_if (PW.pt (pw_and (pt_not (pt_val (pe_meth (pv 0) T.cl_Holder T.m_Holder_bring (ok_Holder_bring T B) (hr.mono (by decide)) T.b_Holder_bring .nil pass0 (pa_cons (pv 1) (pa_cons (pv 2) pa_nil))))) (pw_and1 (pt_not (pt_val (pe_meth (pv 0) T.cl_Holder T.m_Holder_bring (ok_Holder_bring T B) (hr.mono (by decide)) T.b_Holder_bring .nil pass0 (pa_cons (pv 2) (pa_cons (pv 1) pa_nil)))))))) (pss_one (ps_ret pe_bl)) pss_nil)))
      (pss_one (ps_ret pe_bl))), ?_⟩)
  all_goals (try simp only [nox_K, blk_K, cx_K])
  · rintro g fs ds ⟨_, rfl, _⟩; rfl
  · rintro p F ⟨n, ps, hs, tk, i, j⟩ fs ds ⟨rfl, rfl, ⟨I, hi, hj, hij, nh⟩, ind⟩
    simp only at I hi hj hij nh ind
    have rd : ∀ {F : List Addr} {ps' : List Nat} {hs' : List (List Nat)} {k s : Nat} {δ : List SV}, ps'.length = n → k < n → δ[0]? = some (hold K T.C_Holder p (hfs ps' hs') F) → δ[s]? = some (.val (natD k)) → ED K (tOp (rIx K) (tFld K (tVar 0) "pebbles") (tVar s)) δ (natD (ps'.getD k 0)) := fun hl hk e1 e2 =>
      ed_bigIx e1 hfs_p T.cl_Holder T.n_Holder_pebbles (ed_var e2) (natL_at (by omega))
    refine wp_seq (wp_while (fun m δ => ∃ (F : List Addr) (ps' : List Nat) (hs' : List (List Nat)), δ = [hold K T.C_Holder p (hfs ps' hs') F, .val (natD i), .val (natD j)] ∧ Peb.Inv n ps' hs' tk ∧ m = 4 - (ps'.getD i 0 + ps'.getD j 0)) (n := _) ⟨F, ps, hs, rfl, I, rfl⟩ ?_)
    rintro m δ ⟨F, ps', hs', rfl, I', rfl⟩
    have hpl := I'.pl
    have hhl := I'.hl
    refine ⟨decide ((ps'.getD i 0 : Int) + (ps'.getD j 0 : Int) < 4), by repeat' first | exact rd hpl hi rfl rfl | exact rd hpl hj rfl rfl | walk_at "ev2" | fail, fun h => ?_, fun h => ?_⟩
    · have h := of_decide_eq_true h
      refine wp_ifX (P := fun b δ' => (b = true ∧ (∃ F', δ' = [hold K T.C_Holder p (hfs ps' hs') F', .val (natD i), .val (natD j)]) ∧ Stuck n ps' hs' i j ∧ Stuck n ps' hs' j i) ∨
          (b = false ∧ ∃ F' ps2 hs2, δ' = [hold K T.C_Holder p (hfs ps2 hs2) F', .val (natD i), .val (natD j)] ∧ Peb.Inv n ps2 hs2 tk ∧ ps2.getD i 0 + ps2.getD j 0 = ps'.getD i 0 + ps'.getD j 0 + 1))
        (etx_and (P := fun b δ' => (b = true ∧ (∃ F', δ' = [hold K T.C_Holder p (hfs ps' hs') F', .val (natD i), .val (natD j)]) ∧ Stuck n ps' hs' i j) ∨
          (b = false ∧ ∃ F' ps2 hs2, δ' = [hold K T.C_Holder p (hfs ps2 hs2) F', .val (natD i), .val (natD j)] ∧ Peb.Inv n ps2 hs2 tk ∧ ps2.getD i 0 + ps2.getD j 0 = ps'.getD i 0 + ps'.getD j 0 + 1))
          (ETX.mono (etx_not (etx_test (ex_meth (Pre := Pre_Bring) (Post := Post_Bring) (⟨n, ps', hs', tk, i, j⟩ : BrG) (i := 0) rfl (ds := [natD i, natD j]) (by walk_at "ev") ⟨rfl, rfl, I', hi, hj, hij, nh⟩ (fget_none (by rw [hfs_keys]; decide +kernel))) ?_)) ?_) ?_ ?_) ?_ ?_
      · rintro d δ' ⟨fs', F', rfl, ⟨rfl, _⟩ | ⟨rfl, _⟩⟩ <;> exact ⟨_, rfl⟩
      · rintro b δ' ⟨fs', F', rfl, ⟨eb, rfl, st⟩ | ⟨eb, ps2, hs2, rfl, I2, e1, e2⟩⟩
        · have eb : (!b) = false := by injection eb
          exact .inl ⟨by simpa using eb, ⟨F', rfl⟩, st⟩
        · have eb : (!b) = true := by injection eb
          simp only at e1 e2
          exact .inr ⟨by simpa using eb, F', ps2, hs2, rfl, I2, by omega⟩
      · rintro δ' (⟨_, ⟨F', rfl⟩, st⟩ | ⟨z, _⟩)
        · refine ETX.mono (etx_not (etx_test (ex_meth (Pre := Pre_Bring) (Post := Post_Bring) (⟨n, ps', hs', tk, j, i⟩ : BrG) (i := 0) rfl (ds := [natD j, natD i]) (by walk_at "ev") ⟨rfl, rfl, I', hj, hi, fun z => hij z.symm, nh⟩ (fget_none (by rw [hfs_keys]; decide +kernel))) ?_)) ?_
          · rintro d δ' ⟨fs', F', rfl, ⟨rfl, _⟩ | ⟨rfl, _⟩⟩ <;> exact ⟨_, rfl⟩
          · rintro b δ' ⟨fs', F', rfl, ⟨eb, rfl, st2⟩ | ⟨eb, ps2, hs2, rfl, I2, e1, e2⟩⟩
            · have eb : (!b) = false := by injection eb
              exact .inl ⟨by simpa using eb, ⟨F', rfl⟩, st, st2⟩
            · have eb : (!b) = true := by injection eb
              simp only at e1 e2
              exact .inr ⟨by simpa using eb, F', ps2, hs2, rfl, I2, by omega⟩
        · cases z
      · rintro δ' (⟨z, _⟩ | ⟨_, z⟩)
        · cases z
        · exact .inr ⟨rfl, z⟩
      · rintro δ' (⟨_, ⟨F', rfl⟩, st, st2⟩ | ⟨z, _⟩)
        · have no := stuck_no I' hi hj hij st st2 (by omega)
          exact wp_retS ed_bl ⟨_, F', rfl, ps', hs', rfl, by rw [decide_eq_false no], I', fun z => absurd z no⟩
        · cases z
      · rintro δ' (⟨z, _⟩ | ⟨_, F', ps2, hs2, rfl, I2, e⟩)
        · cases z
        · exact wp_next ⟨_, by omega, F', ps2, hs2, rfl, I2, rfl⟩
    · have h := of_decide_eq_false h
      have yes := Peb.Inv.yes I' ind hi hj hij (by omega)
      have i2 := Peb.Inv.le2 I' i
      have j2 := Peb.Inv.le2 I' j
      exact wp_retS ed_bl ⟨_, F, rfl, ps', hs', rfl, by rw [decide_eq_true yes], I', fun _ => (show 4 ≤ ps'.getD i 0 + ps'.getD j 0 by omega)⟩
/-! take -/
def Pre_Take (g : BrG) (fs : FM) (ds : List D) : Prop := fs = hfs g.ps g.hs ∧ ds = [natD g.joint, natD g.other] ∧ g.Tk
def Post_Take (g : BrG) (d : D) (fs : FM) : Prop := ∃ ps' hs', fs = hfs ps' hs' ∧ d = .bool (decide (Peb.Ind g.n (g.tk ++ [(g.joint, g.other)]))) ∧ Peb.Inv g.n ps' hs' (if Peb.Ind g.n (g.tk ++ [(g.joint, g.other)]) then g.tk ++ [(g.joint, g.other)] else g.tk)
theorem ok_Holder_take (T : Txt K mg) (B : Lams T base w) : FnOk P w K mg base CX0 4 T.f_Holder_take T.fd_Holder_take ["self", "i", "j"] (spM K T.C_Holder Pre_Take Post_Take) := by
  refine ok_wpM T.F_Holder_take sc_Holder_take (by decide) ?_ (fun cdv hcv A outer s H E hr => ⟨_, (pss_cons (ps_if (pt_not (pt_val (pe_meth (pv 0) T.cl_Holder T.m_Holder_has_room (ok_Holder_has_room T B) (hr.mono (by decide)) T.b_Holder_has_room .nil pass0 (pa_cons (pv 1) (pa_cons (pv 2) pa_nil))))) (pss_one (ps_ret pe_bl)) pss_nil)
      (pss_cons (ps_augS (kpe_fld (K := K) (pv 0)) (pv 1) (pget_list (K := K)) pe_int ip_sub set_list)
      (pss_cons (ps_expr (pe_bm PySem.F.plainAttrs_list PySem.F.slot_list_append PySem.F.type_list_append mt_append (pe_ix (kx_ix (K := K)) (kpe_fld (K := K) (pv 0)) (pv 1) (fun _ _ => rfl)) (pa_cons (pv 2) pa_nil)))
      (pss_one (ps_ret pe_bl))))), ?_⟩)
  all_goals (try simp only [nox_K, blk_K, cx_K])
  · rintro g fs ds ⟨_, rfl, _⟩; rfl
  · rintro p F ⟨n, ps, hs, tk, i, j⟩ fs ds ⟨rfl, rfl, ok⟩
    have ok0 := ok
    obtain ⟨⟨I, hi, hj, hij, nh⟩, ind⟩ := ok
    simp only at I hi hj hij nh ind
    refine wp_seq (wp_ifX (etx_not (etx_test (ex_meth (Pre := Pre_Room) (Post := Post_Room) (⟨n, ps, hs, tk, i, j⟩ : BrG) (i := 0) rfl (ds := [natD i, natD j]) (by walk_at "ev") ⟨rfl, rfl, ok0⟩ (fget_none (by rw [hfs_keys]; decide +kernel))) ?_)) ?_ ?_)
    · rintro d δ' ⟨fs', F', rfl, ps', hs', rfl, rfl, _⟩
      exact ⟨_, rfl⟩
    · rintro δ' ⟨fs', F', rfl, ps', hs', rfl, eb, I', _⟩
      simp only at eb I'
      have eb : (!true) = decide (Peb.Ind n (tk ++ [(i, j)])) := by injection eb
      have no : ¬ Peb.Ind n (tk ++ [(i, j)]) := of_decide_eq_false eb.symm
      refine wp_retS ed_bl ⟨_, F', rfl, ps', hs', rfl, by rw [decide_eq_false no], ?_⟩
      rw [if_neg no]; exact I'
    · rintro δ' ⟨fs', F', rfl, ps', hs', rfl, eb, I', h4⟩
      simp only at eb I' h4
      have eb : (!false) = decide (Peb.Ind n (tk ++ [(i, j)])) := by injection eb
      have yes : Peb.Ind n (tk ++ [(i, j)]) := of_decide_eq_true eb.symm
      have h4 := h4 yes
      have hpl := I'.pl
      have hhl := I'.hl
      refine wp_next ?_
      have i2 := Peb.Inv.le2 I' i
      have j2 := Peb.Inv.le2 I' j
      refine wp_seq (wp_bigAug (k := (i : Int)) (j := i) (a0 := (ps'.getD i 0 : Nat)) (b0 := 1) (ds := natL ps') rfl hfs_p T.cl_Holder T.n_Holder_pebbles (ed_var rfl) (ix_nat (by rw [natL_len]; omega)) (natL_get (by omega)) (by walk_at "ev") ?_)
      have e1 : (natL ps').set i (.int ((ps'.getD i 0 : Nat) - 1)) = natL (ps'.set i (ps'.getD i 0 - 1)) := by
        rw [natL_set]
        congr 2
        omega
      rw [e1, hfs_putp]
      refine wp_seq (wp_bigApp (k := (i : Int)) (j := i) (d := natD j) rfl hfs_h T.cl_Holder T.n_Holder_heads (ed_var rfl) (ix_nat (by rw [List.length_map]; omega)) (hfs_get (by omega)) (ed_var rfl) ?_ ?_)
      · rw [natL_len]
        have := small_heads I' (fun _ => Nat.le_refl _) i
        exact small1000 (by omega)
      · have e4 : natL (hs'.getD i []) ++ [natD j] = natL (hs'.getD i [] ++ [j]) := by rw [natL_app]; rfl
        rw [e4, hfs_set, hfs_puth]
        refine wp_retS ed_bl ⟨_, F', rfl, _, _, rfl, by rw [decide_eq_true yes], ?_⟩
        rw [if_pos yes]
        exact Peb.Inv.add I' hi hj (by omega)

/-! chosen and the rest -/
def prD (p : Peb.Pr) : D := .tuple [natD p.1, natD p.2]
def PrOk (n : Nat) (pairs : List Peb.Pr) : Prop := ∀ p ∈ pairs, p.1 < n ∧ p.2 < n ∧ p.1 ≠ p.2
theorem Inv_chM {n : Nat} {ps : List Nat} {hs : List (List Nat)} {tk : List Peb.Pr} {p : Peb.Pr} (h : Peb.Inv n ps hs (if Peb.Ind n (tk ++ [(p.1, p.2)]) then tk ++ [(p.1, p.2)] else tk)) : Peb.Inv n ps hs (if Peb.Ind n (tk ++ [p]) then tk ++ [p] else tk) := h
def R_chosen (ds : List D) (d : D) : Prop := ∃ (n : Nat) (x : D) (pairs : List Peb.Pr), ds = [.tuple [natD n, x]] ∧ itemsD x = some (pairs.map prD) ∧ PrOk n pairs ∧ n ≤ 1000 ∧ pairs.length ≤ 1000 ∧ d = .list ((Peb.chM n [] pairs).map prD)
theorem itemsD_rd {x : D} {ds : List D} (h : itemsD x = some ds) : (∃ y, x = .list y) ∨ ∃ y, x = .tuple y := by
  cases x with
  | list y => exact .inl ⟨y, rfl⟩
  | tuple y => exact .inr ⟨y, rfl⟩
  | _ => cases h
theorem ok_chosen (T : Txt K mg) (B : Lams T base w) : FnOk P w K mg base CX0 5 T.f_chosen T.fd_chosen ["net"] (spD K R_chosen) := by
  refine ok_wp T.F_chosen sc_chosen ?_ (fun cdv hcv A outer s H E hr => ⟨_, (pss_cons (ps_asg (pv 0) (kpg_tup (K := K) (n := 2) rfl (pgs_cons (pg_name (i := 1) sc_chosen.nd rfl (by first | exact Or.inl rfl | exact Or.inr rfl)) (pgs_cons (pg_name (i := 2) sc_chosen.nd rfl (by first | exact Or.inl rfl | exact Or.inr rfl)) pgs_nil))))
      (pss_cons (ps_set (i := 3) sc_chosen.nd rfl (by first | exact Or.inl rfl | exact Or.inr rfl) (pe_make T.mk_Holder (ok_Holder___init__ T B) (hr.mono (by decide)) (by rfl) T.g_Holder T.b_Holder___init__ .nil pass0 (pa_cons (pv 1) pa_nil)))
      (pss_cons (ps_set (i := 4) sc_chosen.nd rfl (by first | exact Or.inl rfl | exact Or.inr rfl) (pe_lst pa_nil))
      (pss_cons (ps_for PassesOwn.never rfl (kpi_seq (K := K) (pv 2)) (pg_name (i := 5) sc_chosen.nd rfl (by first | exact Or.inl rfl | exact Or.inr rfl))
      (pss_one (ps_if (pt_val (pe_meth (pv 3) T.cl_Holder T.m_Holder_take (ok_Holder_take T B) (hr.mono (by decide)) T.b_Holder_take .nil pass0 (pa_cons (pe_ix (kx_ix (K := K)) (pv 5) pe_int (fun _ _ => rfl)) (pa_cons (pe_ix (kx_ix (K := K)) (pv 5) pe_int (fun _ _ => rfl)) pa_nil)))) (pss_one (ps_expr (pe_bm PySem.F.plainAttrs_list PySem.F.slot_list_append PySem.F.type_list_append mt_append (pv 4) (pa_cons (pv 5) pa_nil)))) pss_nil)))
      (pss_one (ps_ret (pv 4))))))), ?_⟩)
  all_goals (try simp only [nox_K, blk_K, cx_K])
  · rintro ds d ⟨n, x, pairs, rfl, _⟩; rfl
  · rintro ds d ⟨n, x, pairs, rfl, hx, ok, nh, lh, rfl⟩
    refine wp_seq (wp_asgG (d := .tuple [natD n, x]) (ed_var rfl) (gd_tup (gds_cons gd_name (gds_cons gd_name gds_nil)) rfl) ?_)
    refine wp_seq (wp_asgMake (Pre := Pre_Init) (Post := Post_Init) n (ds := [natD n]) (by walk_at "ev") ⟨rfl, rfl, nh⟩ (fun d fs' hd => hd.1) fun p F fs' hd => ?_)
    obtain ⟨_, rfl⟩ := hd
    refine wp_seq (wp_asgN (en_lst ea_nil (by decide)) ?_)
    refine wp_seq (wp_forG (xs := pairs) (g := prD) (fun k δ => ∃ (F : List Addr) (ps : List Nat) (hs : List (List Nat)) (a : SV), δ = [.val (.tuple [natD n, x]), .val (natD n), .val x, hold K T.C_Holder p (hfs ps hs) F, .own (.l ((Peb.chM n [] (pairs.take k)).map prD)), a] ∧ Peb.Inv n ps hs (Peb.chM n [] (pairs.take k)))
      (ei_seq (ed_var rfl) hx) ⟨F, _, _, _, rfl, Peb.Inv.new n⟩ ?_ ?_)
    · rintro k q δ eq ⟨F, ps, hs, a, rfl, I⟩
      have hq := ok q (List.mem_of_getElem? eq)
      have hk : k < pairs.length := (List.getElem?_eq_some_iff.mp eq).1
      have et : pairs.take (k + 1) = pairs.take k ++ [q] := by rw [List.take_add_one, eq]; rfl
      have ind : Peb.Ind n (Peb.chM n [] (pairs.take k)) := Peb.chM_ind _ _ Peb.Ind.nil
      have lc : (Peb.chM n [] (pairs.take k)).length ≤ 1000 := by
        have := Peb.chM_len (n := n) (pairs.take k) []
        rw [List.length_take] at this
        have h0 : ([] : List Peb.Pr).length = 0 := rfl
        omega
      refine wp_ifX (etx_test (ex_meth (Pre := Pre_Take) (Post := Post_Take) (⟨n, ps, hs, Peb.chM n [] (pairs.take k), q.1, q.2⟩ : BrG) (i := 3) rfl (ds := [natD q.1, natD q.2]) (ea_cons (ed_ix (x := prD q) (ed_var rfl) ed_int rfl) (ea_cons (ed_ix (x := prD q) (ed_var rfl) ed_int rfl) ea_nil)) ⟨rfl, rfl, ⟨I, hq.1, hq.2.1, hq.2.2, nh⟩, ind⟩ (fget_none (by rw [hfs_keys]; decide +kernel))) ?_) ?_ ?_
      · rintro d δ' ⟨fs', F', rfl, ps', hs', rfl, rfl, _⟩
        exact ⟨_, rfl⟩
      · rintro δ' ⟨fs', F', rfl, ps', hs', rfl, eb, I'⟩
        simp only at eb I'
        have I' := Inv_chM I'
        have eb : true = decide (Peb.Ind n (Peb.chM n [] (pairs.take k) ++ [(q.1, q.2)])) := by injection eb
        have yes : Peb.Ind n (Peb.chM n [] (pairs.take k) ++ [q]) := of_decide_eq_true eb.symm
        rw [if_pos yes] at I'
        refine wp_app (d := prD q) rfl (ed_var rfl) (by rw [List.length_map]; exact small1000 (by omega)) ⟨F', ps', hs', .val (prD q), ?_, ?_⟩
        · rw [et, Peb.chM_snoc, if_pos yes, List.map_append]; rfl
        · rw [et, Peb.chM_snoc, if_pos yes]; exact I'
      · rintro δ' ⟨fs', F', rfl, ps', hs', rfl, eb, I'⟩
        simp only at eb I'
        have I' := Inv_chM I'
        have eb : false = decide (Peb.Ind n (Peb.chM n [] (pairs.take k) ++ [(q.1, q.2)])) := by injection eb
        have no : ¬ Peb.Ind n (Peb.chM n [] (pairs.take k) ++ [q]) := of_decide_eq_false eb.symm
        rw [if_neg no] at I'
        refine wp_next ⟨F', ps', hs', .val (prD q), ?_, ?_⟩
        · rw [et, Peb.chM_snoc, if_neg no]; rfl
        · rw [et, Peb.chM_snoc, if_neg no]; exact I'
    · rintro δ ⟨F, ps, hs, a, rfl, I⟩
      rw [List.take_length]
      exact wp_retOwn rfl rfl
theorem lenD_of {x : D} {ds : List D} (h : itemsD x = some ds) : lenD x = some ds.length := by
  cases x with
  | list y => cases h; rfl
  | tuple y => cases h; rfl
  | _ => cases h
def R_indep (ds : List D) (d : D) : Prop := ∃ (n : Nat) (x : D) (pairs : List Peb.Pr), ds = [natD n, x] ∧ itemsD x = some (pairs.map prD) ∧ PrOk n pairs ∧ n ≤ 1000 ∧ pairs.length ≤ 1000 ∧ d = .bool (decide (Peb.Ind n pairs))
theorem ok_are_independent (T : Txt K mg) (B : Lams T base w) : FnOk P w K mg base CX0 6 T.f_are_independent T.fd_are_independent ["n", "pairs"] (spD K R_indep) := by
  refine ok_wp T.F_are_independent sc_are_independent ?_ (fun cdv hcv A outer s H E hr => ⟨_, (pss_one (ps_ret (pe_cmpR (kx_eq (K := K) hr.units) (pe_callB (kx_len (K := K)) (by rfl) T.z_len (by decide +kernel) (pa_cons (pe_call (ok_chosen T B) (hr.mono (by decide)) (by rfl) T.g_chosen T.F_chosen.kp T.b_chosen .nil pass0 (pa_cons (pe_tup (pa_cons (pv 0) (pa_cons (pv 1) pa_nil))) pa_nil)) pa_nil)) (pe_callB (kx_len (K := K)) (by rfl) T.z_len (by decide +kernel) (pa_cons (pv 1) pa_nil)) (nomark _)))), ?_⟩)
  all_goals (try simp only [nox_K, blk_K, cx_K])
  · rintro ds d ⟨n, x, pairs, rfl, _⟩; rfl
  · rintro ds d ⟨n, x, pairs, rfl, hx, ok, nh, lh, rfl⟩
    have c : R_chosen [.tuple [natD n, x]] (.list ((Peb.chM n [] pairs).map prD)) := ⟨n, x, pairs, rfl, hx, ok, nh, lh, rfl⟩
    have ll := lenD_of hx
    refine wp_ret (d := .bool (PyData.eqv (.int ((Peb.chM n [] pairs).map prD).length) (.int (pairs.map prD).length))) (by repeat' first | exact ll | exact c | walk_at "ev2" | fail) ?_
    show PyData.bool (_ == _) = _
    congr 1
    have := Peb.chM_all (n := n) pairs [] Peb.Ind.nil
    rw [List.nil_append] at this
    rw [List.length_map, List.length_map, Bool.eq_iff_iff, beq_iff_eq, decide_eq_true_iff, ← this]
    have h0 : ([] : List Peb.Pr).length = 0 := rfl
    omega
def R_crank (ds : List D) (d : D) : Prop := ∃ (n : Nat) (x : D) (pairs : List Peb.Pr), ds = [.tuple [natD n, x]] ∧ itemsD x = some (pairs.map prD) ∧ PrOk n pairs ∧ n ≤ 1000 ∧ pairs.length ≤ 1000 ∧ d = natD (Peb.chM n [] pairs).length
/-! ### pairs as data -/
theorem prD_eqv (p q : Peb.Pr) : PyData.eqv (prD p) (prD q) = decide (p = q) := by
  obtain ⟨a, b⟩ := p
  obtain ⟨c, d⟩ := q
  have e : PyData.eqv (prD (a, b)) (prD (c, d)) = (((a : Int) == (c : Int)) && (((b : Int) == (d : Int)) && true)) := by simp only [DX.prD, natD, PyData.eqv, PyData.eqvAll]
  rw [e, Bool.and_true, Bool.eq_iff_iff, Bool.and_eq_true, beq_iff_eq, beq_iff_eq, decide_eq_true_iff, Prod.mk.injEq]
  omega
theorem prD_any (l : List Peb.Pr) (q : Peb.Pr) : ((l.map prD).any fun z => PyData.eqv z (prD q)) = decide (q ∈ l) := by
  induction l with
  | nil => rfl
  | cons p l ih =>
    rw [List.map_cons, List.any_cons, ih, prD_eqv, Bool.eq_iff_iff, Bool.or_eq_true, decide_eq_true_iff, decide_eq_true_iff, decide_eq_true_iff, List.mem_cons]
    exact ⟨fun h => h.elim (fun z => .inl z.symm) .inr, fun h => h.elim (fun z => .inl z.symm) .inr⟩
theorem shp_pr {p : Peb.Pr} {n : Nat} : Shp (n + 1) (prD p) := shp_tup fun d hd => by
  rcases List.mem_cons.mp hd with rfl | hd
  · exact shp_int
  · rw [List.mem_singleton.mp hd]; exact shp_int
theorem shp_prs {l : List Peb.Pr} {n : Nat} : Shp (n + 2) (.list (l.map prD)) := shp_list (shp_map fun _ => shp_pr)
theorem PrOk.sub {n : Nat} {a b : List Peb.Pr} (h : PrOk n b) (s : ∀ p ∈ a, p ∈ b) : PrOk n a := fun p hp => h p (s p hp)

/-! ### small facts of data -/
theorem shp_str {n : Nat} {x : Str} (h : PyData.strOk x = true) : Shp n (.str x) := by
  refine ⟨?_, ?_⟩
  · simpa only [PyData.canLay0] using h
  · simp only [PyData.depth]; omega
theorem shp_bl {b : Bool} : SeqAt.shaped (.bool b) = true := Shp.shaped (n := 0) shp_bool
theorem shp_i {i : Int} : SeqAt.shaped (.int i) = true := Shp.shaped (n := 0) shp_int
theorem shp_s {x : Str} (h : PyData.strOk x = true) : SeqAt.shaped (.str x) = true := Shp.shaped (n := 0) (shp_str h)
theorem eqv_int (a b : Int) : PyData.eqv (.int a) (.int b) = (a == b) := rfl
theorem eqv_bool (a b : Bool) : PyData.eqv (.bool a) (.bool b) = (a == b) := by
  cases a <;> cases b <;> rfl
theorem eqv_str (a b : Str) : PyData.eqv (.str a) (.str b) = decide (a = b) := by
  simp only [PyData.eqv]
  by_cases h : a = b
  · subst h; simp
  · rw [decide_eq_false h]; simpa using h
theorem natL_in {k : Nat} {js : List Nat} : decide ((k : Int) ∈ js.map fun (x : Nat) => (x : Int)) = decide (k ∈ js) := by
  rw [Bool.eq_iff_iff, decide_eq_true_iff, decide_eq_true_iff, List.mem_map]
  exact ⟨fun ⟨x, m, e⟩ => by
    have : x = k := by omega
    exact this ▸ m, fun m => ⟨k, m, rfl⟩⟩
theorem natI_nodup {js : List Nat} (h : js.Nodup) : (js.map fun (x : Nat) => (x : Int)).Nodup := by
  rw [List.Nodup, List.pairwise_map]
  exact h.imp fun h e => h (by omega)
theorem ix0 {x : D} {r : List D} : itemD (.tuple (x :: r)) 0 = some x := atI_nat (xs := x :: r) (j := 0) rfl
theorem ix1 {x y : D} {r : List D} : itemD (.tuple (x :: y :: r)) 1 = some y := atI_nat (xs := x :: y :: r) (j := 1) rfl
theorem lx0 {x : D} {r : List D} : itemD (.list (x :: r)) 0 = some x := atI_nat (xs := x :: r) (j := 0) rfl
theorem lx1 {x y : D} {r : List D} : itemD (.list (x :: y :: r)) 1 = some y := atI_nat (xs := x :: y :: r) (j := 1) rfl
theorem EP.ed {K : PySem.W.Frag} {te : TE} {δ : List SV} {P : D → Prop} {x : D} (h : EP K te δ P) (u : ∀ d, P d → d = x) : ED K te δ x := fun B0 H0 B H σ Q S q => h B0 H0 B H σ Q S fun v B' H' d s a pd => q v B' H' s (u d pd ▸ a)
theorem asc_lt_uni : ∀ {a b : List Int}, a.Pairwise (· < ·) → b.Pairwise (· < ·) → (∀ k, k ∈ a ↔ k ∈ b) → a = b := fun {a b} ha hb hm => by
  have nd : ∀ {l : List Int}, l.Pairwise (· < ·) → l.Nodup := fun h => h.imp fun h e => by omega
  exact asc_uni ((List.perm_ext_iff_of_nodup (nd ha) (nd hb)).mpr hm) (ha.imp fun h => by omega) (hb.imp fun h => by omega)

/-! buildings: the joint that came last -/
def othI (k : Nat) (p : Peb.Pr) : Int := (p.1 : Int) + (p.2 : Int) - (k : Int)
def nbrs (k : Nat) (l : List Peb.Pr) : List Int := asc ((l.filter (Hen.at_ k)).map (othI k))
def R_nbr (ds : List D) (d : D) : Prop := ∃ (k : Nat) (l : List Peb.Pr), ds = [natD k, .list (l.map prD)] ∧ l.length ≤ 1000 ∧ d = .list ((nbrs k l).map PyData.int)
theorem in2 (k a b : Nat) : decide ((k : Int) ∈ [(a : Int), (b : Int)]) = (a == k || b == k) := by
  rw [Bool.eq_iff_iff, decide_eq_true_iff, Bool.or_eq_true, beq_iff_eq, beq_iff_eq, List.mem_cons, List.mem_singleton]
  omega
theorem ok_neighbours (T : Txt K mg) (B : Lams T base w) : FnOk P w K mg base CX0 1 T.f_neighbours T.fd_neighbours ["joint", "pairs"] (spD K R_nbr) := by
  refine ok_wp T.F_neighbours sc_neighbours ?_ (fun cdv hcv A outer s H E hr => ⟨_, (pss_one (ps_ret (pe_callB (kx_sortedI (K := K)) (by rfl) T.z_sorted (by decide +kernel) (pa_cons (pe_lc (own := [("i", 2), ("j", 3)]) (by rfl) sc_neighbours.nd (kpi_seq (K := K) (pv 1)) (by refine blkOk_by ?_; rfl) (fun _ _ _ _ _ => kpg_tup (K := K) (n := 2) rfl (pgs_cons (pg_name (i := 2) sc_neighbours.nd rfl (by first | exact Or.inl rfl | exact Or.inr rfl)) (pgs_cons (pg_name (i := 3) sc_neighbours.nd rfl (by first | exact Or.inl rfl | exact Or.inr rfl)) pgs_nil))) (fun _ _ _ _ _ => pts_one (pt_cmpR (kx_in (K := K)) (pv 0) (pe_tup (pa_cons (pv 2) (pa_cons (pv 3) pa_nil))) (by rfl))) (fun _ _ _ _ _ => (pe_op op_sub (pe_op op_add (pv 2) (pv 3)) (pv 0)))) pa_nil)))), ?_⟩)
  all_goals (try simp only [nox_K, blk_K, cx_K])
  · rintro ds d ⟨k, l, rfl, _⟩; rfl
  · rintro ds d ⟨k, l, rfl, hl, rfl⟩
    refine wp_ret (EN.ed (en_sortedI (ns := (l.filter (Hen.at_ k)).map (othI k)) (ED.of (EN.ed (en_lcW (xs := l) (gd := prD) (p := Hen.at_ k) (f := fun p => PyData.int (othI k p)) (ei_seq (ed_var rfl) rfl) (sz_small (by omega)) (fun p hp => gw_tup (gws_cons (gw_name (by decide)) (gws_cons (gw_name (by decide)) gws_nil)) rfl) (fun p hp => ?_) fun p hp _ => ?_)) (by rw [List.map_map]; rfl)))) rfl
    · exact ET.of (et_B (ed_in (k := (k : Int)) (ns := [(p.1 : Int), (p.2 : Int)]) (ed_var rfl) (ed_tup (ea_cons (ed_var rfl) (ea_cons (ed_var rfl) ea_nil)) (sz_small (by simp))) rfl)) (in2 k p.1 p.2)
    · exact ED.of (d := .int ((p.1 : Int) + (p.2 : Int) - (k : Int))) (by repeat' first | walk_at "ev2" | fail) rfl
theorem sz_lt {n : Nat} (h : n ≤ 1000) : n < sizeLine := small1000 h
/-- a step -/
inductive Stp32 where
  | two (k a b : Nat)
  | three (k a b c : Nat)
def Stp32.d : Stp32 → D
  | .two k a b => .tuple [.str "two", natD k, natD a, natD b]
  | .three k a b c => .tuple [.str "three", natD k, natD a, natD b, natD c]
def Stp32.k : Stp32 → Nat
  | .two k _ _ => k
  | .three k _ _ _ => k
def undM (l : List Peb.Pr) : Stp32 → List Peb.Pr
  | .two k _ _ => Hen.off k l
  | .three k a b _ => Hen.off k l ++ [(a, b)]
def R_und (ds : List D) (d : D) : Prop := ∃ (l : List Peb.Pr) (s : Stp32), ds = [.list (l.map prD), s.d] ∧ l.length ≤ 1000 ∧ d = .list ((undM l s).map prD)
theorem ok_undone (T : Txt K mg) (B : Lams T base w) : FnOk P w K mg base CX0 1 T.f_undone T.fd_undone ["pairs", "step"] (spD K R_und) := by
  refine ok_wp T.F_undone sc_undone ?_ (fun cdv hcv A outer s H E hr => ⟨_, (pss_cons (ps_set (i := 2) sc_undone.nd rfl (by first | exact Or.inl rfl | exact Or.inr rfl) (pe_ix (kx_ix (K := K)) (pv 1) pe_int (fun _ _ => rfl)))
      (pss_cons (ps_setLc (i := 3) (own := [("pair", 4)]) (by rfl) sc_undone.nd rfl rfl (sw_true rfl rfl rfl rfl) (kpi_seq (K := K) (pv 0)) (by refine blkOk_by ?_; rfl) (fun _ _ _ _ _ => pg_name (i := 4) sc_undone.nd rfl (by first | exact Or.inl rfl | exact Or.inr rfl)) (fun _ _ _ _ _ => pts_one (pt_cmpR (kx_notin (K := K)) (pv 2) (pv 4) (by rfl))) (fun _ _ _ _ _ => (pv 4)))
      (pss_cons (ps_if (pt_cmpR (kx_eq (K := K) hr.units) (pe_ix (kx_ix (K := K)) (pv 1) pe_int (fun _ _ => rfl)) pe_str (nomark _)) (pss_one (ps_expr (pe_bm PySem.F.plainAttrs_list PySem.F.slot_list_append PySem.F.type_list_append mt_append (pv 3) (pa_cons (pe_tup (pa_cons (pe_ix (kx_ix (K := K)) (pv 1) pe_int (fun _ _ => rfl)) (pa_cons (pe_ix (kx_ix (K := K)) (pv 1) pe_int (fun _ _ => rfl)) pa_nil))) pa_nil)))) pss_nil)
      (pss_one (ps_ret (pv 3)))))), ?_⟩)
  all_goals (try simp only [nox_K, blk_K, cx_K])
  · rintro ds d ⟨l, s, rfl, _⟩; rfl
  · rintro ds d ⟨l, s, rfl, hl, rfl⟩
    refine wp_seq (wp_asg (d := natD s.k) (by cases s <;> exact ed_ix (ed_var rfl) ed_int rfl) ?_)
    refine wp_seq (wp_asgN (ds := (Hen.off s.k l).map prD) (en_lcW (xs := l) (gd := prD) (p := fun p => !Hen.at_ s.k p) (f := prD) (ei_seq (ed_var rfl) rfl) (sz_small (by omega)) (fun p hp => gw_name (by decide)) (fun p hp => ?_) fun p hp _ => ed_var rfl) ?_)
    · exact ET.of (et_B (ed_notin (k := (s.k : Int)) (ns := [(p.1 : Int), (p.2 : Int)]) (ed_var rfl) (ed_var rfl) rfl)) (by rw [in2]; rfl)
    · cases s with
      | two k a b =>
        refine wp_seq (wp_if (b := false) (et_B (ed_eqD (x := .str "two") (y := .str "three") (ed_ix (ed_var rfl) ed_int rfl) ed_str (Shp.shaped (n := 0) (shp_str (by decide +kernel))) (Shp.shaped (n := 0) (shp_str (by decide +kernel))) (by decide +kernel))) (fun z => by cases z) fun _ => wp_next ?_)
        exact wp_retOwn rfl rfl
      | three k a b c =>
        refine wp_seq (wp_if (b := true) (et_B (ed_eqD (x := .str "three") (y := .str "three") (ed_ix (ed_var rfl) ed_int rfl) ed_str (Shp.shaped (n := 0) (shp_str (by decide +kernel))) (Shp.shaped (n := 0) (shp_str (by decide +kernel))) (by decide +kernel))) (fun _ => ?_) fun z => by cases z)
        refine wp_app (d := prD (a, b)) rfl (ed_tup (ea_cons (ed_ix (ed_var rfl) ed_int rfl) (ea_cons (ed_ix (ed_var rfl) ed_int rfl) ea_nil)) (sz_small (by simp))) (sz_lt (by rw [List.length_map]; exact Nat.le_trans (List.length_filter_le ..) hl)) ?_
        exact wp_retOwn rfl (by unfold undM; rw [List.map_append]; rfl)

open Classical in
noncomputable def fitM (n : Nat) (l : List Peb.Pr) : Stp32 → Bool
  | .two _ _ _ => false
  | .three k a b c => !decide ((a, b) ∈ l) && decide (Peb.Ind n (undM l (.three k a b c)))
theorem und_ok {n : Nat} {l : List Peb.Pr} {k a b c : Nat} (ok : PrOk n l) (ha : a < n) (hb : b < n) (hab : a ≠ b) : PrOk n (undM l (.three k a b c)) := fun p mp => by
  rcases List.mem_append.mp mp with z | z
  · exact ok p (List.mem_filter.mp z).1
  · rw [List.mem_singleton.mp z]; exact ⟨ha, hb, hab⟩
theorem und_len {l : List Peb.Pr} {s : Stp32} : (undM l s).length ≤ l.length + 1 := by
  cases s with
  | two k a b => exact Nat.le_succ_of_le (List.length_filter_le ..)
  | three k a b c =>
    show (Hen.off k l ++ [(a, b)]).length ≤ _
    rw [List.length_append]
    exact Nat.add_le_add_right (List.length_filter_le ..) 1
def R_three (ds : List D) (d : D) : Prop := ∃ (n k a b c : Nat) (l : List Peb.Pr) (s : Stp32) (r : List Stp32), ds = [natD n, natD k, .list [natD a, natD b, natD c], .list (l.map prD)] ∧ n ≤ 1000 ∧ l.length ≤ 900 ∧ PrOk n l ∧
  (a < n ∧ b < n ∧ c < n ∧ a ≠ b ∧ a ≠ c ∧ b ≠ c) ∧ [Stp32.three k a b c, .three k a c b, .three k b c a].filter (fitM n l) = s :: r ∧ d = s.d
theorem ok_three_step (T : Txt K mg) (B : Lams T base w) : FnOk P w K mg base CX0 7 T.f_three_step T.fd_three_step ["n", "k", "near", "pairs"] (spD K R_three) := by
  refine ok_wp T.F_three_step sc_three_step ?_ (fun cdv hcv A outer s H E hr => ⟨_, (pss_cons (ps_asg (pv 2) (kpg_lst (K := K) (n := 3) rfl (pgs_cons (pg_name (i := 4) sc_three_step.nd rfl (by first | exact Or.inl rfl | exact Or.inr rfl)) (pgs_cons (pg_name (i := 5) sc_three_step.nd rfl (by first | exact Or.inl rfl | exact Or.inr rfl)) (pgs_cons (pg_name (i := 6) sc_three_step.nd rfl (by first | exact Or.inl rfl | exact Or.inr rfl)) pgs_nil)))))
      (pss_cons (ps_set (i := 7) sc_three_step.nd rfl (by first | exact Or.inl rfl | exact Or.inr rfl) (pe_lst (pa_cons (pe_tup (pa_cons pe_str (pa_cons (pv 1) (pa_cons (pv 4) (pa_cons (pv 5) (pa_cons (pv 6) pa_nil)))))) (pa_cons (pe_tup (pa_cons pe_str (pa_cons (pv 1) (pa_cons (pv 4) (pa_cons (pv 6) (pa_cons (pv 5) pa_nil)))))) (pa_cons (pe_tup (pa_cons pe_str (pa_cons (pv 1) (pa_cons (pv 5) (pa_cons (pv 6) (pa_cons (pv 4) pa_nil)))))) pa_nil)))))
      (pss_cons (ps_setLc (i := 8) (own := [("step", 9)]) (by rfl) sc_three_step.nd rfl rfl (sw_true rfl rfl rfl rfl) (kpi_seq (K := K) (pv 7)) (by refine blkOk_by ?_; rfl) (fun _ _ _ _ _ => pg_name (i := 9) sc_three_step.nd rfl (by first | exact Or.inl rfl | exact Or.inr rfl)) (fun _ _ _ _ _ => pts_one (PW.pt (pw_and (pt_cmpR (kx_notinD (K := K) (hu65 hr)) (pe_tup (pa_cons (pe_ix (kx_ix (K := K)) (pv 9) pe_int (fun _ _ => rfl)) (pa_cons (pe_ix (kx_ix (K := K)) (pv 9) pe_int (fun _ _ => rfl)) pa_nil))) (pv 3) (by rfl)) (pw_and1 (pt_val (pe_call (ok_are_independent T B) (hr.mono (by decide)) (by rfl) T.g_are_independent T.F_are_independent.kp T.b_are_independent .nil pass0 (pa_cons (pv 0) (pa_cons (pe_call (ok_undone T B) (hr.mono (by decide)) (by rfl) T.g_undone T.F_undone.kp T.b_undone .nil pass0 (pa_cons (pv 3) (pa_cons (pv 9) pa_nil))) pa_nil)))))))) (fun _ _ _ _ _ => (pv 9)))
      (pss_one (ps_ret (pe_ix (kx_ix (K := K)) (pv 8) pe_int (fun _ _ => rfl))))))), ?_⟩)
  all_goals (try simp only [nox_K, blk_K, cx_K])
  · rintro ds d ⟨n, k, a, b, c, l, s, r, rfl, _⟩; rfl
  · rintro ds d ⟨n, k, a, b, c, l, s, r, rfl, hn, hl, ok, ⟨ha, hb, hc, hab, hac, hbc⟩, hf, rfl⟩
    refine wp_seq (wp_asgG (ed_var rfl) (gd_lst (gds_cons gd_name (gds_cons gd_name (gds_cons gd_name gds_nil))) rfl) ?_)
    refine wp_seq (wp_asg (d := .list ([Stp32.three k a b c, .three k a c b, .three k b c a].map Stp32.d)) (EN.ed (en_lst (ds := [Stp32.three k a b c, .three k a c b, .three k b c a].map Stp32.d) (ea_cons (ed_tup (ea_cons ed_str (ea_cons (ed_var rfl) (ea_cons (ed_var rfl) (ea_cons (ed_var rfl) (ea_cons (ed_var rfl) ea_nil))))) (sz_small (by simp))) (ea_cons (ed_tup (ea_cons ed_str (ea_cons (ed_var rfl) (ea_cons (ed_var rfl) (ea_cons (ed_var rfl) (ea_cons (ed_var rfl) ea_nil))))) (sz_small (by simp))) (ea_cons (ed_tup (ea_cons ed_str (ea_cons (ed_var rfl) (ea_cons (ed_var rfl) (ea_cons (ed_var rfl) (ea_cons (ed_var rfl) ea_nil))))) (sz_small (by simp))) ea_nil))) (sz_small (by simp)))) ?_)
    refine wp_seq (wp_asg (d := .list ((s :: r).map Stp32.d)) (ED.of (EN.ed (en_lcW (xs := [Stp32.three k a b c, .three k a c b, .three k b c a]) (gd := Stp32.d) (p := fitM n l) (f := Stp32.d) (ei_seq (ed_var rfl) rfl) (sz_small (by simp)) (fun p hp => gw_name (by decide)) (fun p hp => ?_) fun p hp _ => ed_var rfl)) (by rw [hf])) ?_)
    · simp only [List.mem_cons, List.not_mem_nil, or_false] at hp
      obtain ⟨x, y, z, hx, hy, hxy, rfl⟩ : ∃ x y z : Nat, x < n ∧ y < n ∧ x ≠ y ∧ p = .three k x y z := by
        rcases hp with e | e | e
        · exact ⟨a, b, c, ha, hb, hab, e⟩
        · exact ⟨a, c, b, ha, hc, hac, e⟩
        · exact ⟨b, c, a, hb, hc, hbc, e⟩
      refine et_and (a := !decide ((x, y) ∈ l)) (b := decide (Peb.Ind n (undM l (.three k x y z)))) (ET.of (et_B (ed_notinD (d := prD (x, y)) (ds := l.map prD) (ed_tup (ea_cons (ed_ix (ed_var rfl) ed_int rfl) (ea_cons (ed_ix (ed_var rfl) ed_int rfl) ea_nil)) (sz_small (by simp))) (ed_var rfl) (Shp.shaped (n := 1) shp_pr) (Shp.shaped (n := 2) shp_prs))) (by rw [prD_any])) fun _ => ?_
      have c1 : R_und [.list (l.map prD), (Stp32.three k x y z).d] (.list ((undM l (.three k x y z)).map prD)) := ⟨l, _, rfl, by omega, rfl⟩
      have c2 : R_indep [natD n, .list ((undM l (.three k x y z)).map prD)] (.bool (decide (Peb.Ind n (undM l (.three k x y z))))) := ⟨n, _, _, rfl, rfl, und_ok ok hx hy hxy, hn, Nat.le_trans und_len (by omega), rfl⟩
      exact et_test (ed_call (ea_cons (ed_var rfl) (ea_cons (ed_call (ea_cons (ed_var rfl) (ea_cons (ed_var rfl) ea_nil)) c1) ea_nil)) c2)
    · exact wp_ret (ed_ix (ed_var rfl) ed_int (atI_nat (xs := (s :: r).map Stp32.d) (j := 0) rfl)) rfl

def keyM (js : List Nat) (l : List Peb.Pr) (i : Nat) : Int := ((nbrs (js.getD i 0) l).length : Nat)
def R_last (ds : List D) (d : D) : Prop := ∃ (n k : Nat) (js : List Nat) (l : List Peb.Pr) (s : Stp32), ds = [natD n, .list (natL js), .list (l.map prD)] ∧ n ≤ 1000 ∧ l.length ≤ 900 ∧ PrOk n l ∧ js[argBest (fun i j => ltB (keyM js l i) (keyM js l j)) (js.length - 1)]? = some k ∧
  ((∃ a b : Nat, nbrs k l = [(a : Int), (b : Int)] ∧ s = .two k a b) ∨ ∃ (a b c : Nat) (r : List Stp32), nbrs k l = [(a : Int), (b : Int), (c : Int)] ∧ (a < n ∧ b < n ∧ c < n ∧ a ≠ b ∧ a ≠ c ∧ b ≠ c) ∧ [Stp32.three k a b c, .three k a c b, .three k b c a].filter (fitM n l) = s :: r) ∧ d = s.d
theorem natL_some {js : List Nat} {i : Nat} {x : D} (h : (natL js)[i]? = some x) : i < js.length ∧ x = natD (js.getD i 0) := by
  have hi : i < js.length := by
    have := (List.getElem?_eq_some_iff.mp h).1
    rw [natL_len] at this; exact this
  rw [natL_get hi] at h
  exact ⟨hi, (Option.some.inj h).symm⟩
theorem ok_last_step (T : Txt K mg) (B : Lams T base w) : FnOk P w K mg base CX0 8 T.f_last_step T.fd_last_step ["n", "joints", "pairs"] (spD K R_last) := by
  refine ok_wp T.F_last_step sc_last_step ?_ (fun cdv hcv A outer s H E hr => ⟨_, (pss_cons (ps_set (i := 3) sc_last_step.nd rfl (by first | exact Or.inl rfl | exact Or.inr rfl) (pe_minK (pi := 5) (k := 1) (by rfl) T.z_min (pv 1) B.tb_last_step (hcv.symm.trans T.code_last_step) B.tm_last_step (lamOne_by (by kernel_rfl)) sc_last_step.nd rfl (hr.mono (by decide)) (fun _ _ _ _ => rfl)
      (fun A outer s H f c' hr => (pe_callB (kx_len (K := K)) (by rfl) T.z_len (by decide +kernel) (pa_cons (pe_call (ok_neighbours T B) (hr.mono (by decide)) (by rfl) T.g_neighbours T.F_neighbours.kp T.b_neighbours .nil pass0 (pa_cons (pv 5) (pa_cons (pv 2) pa_nil))) pa_nil)))))
      (pss_cons (ps_set (i := 4) sc_last_step.nd rfl (by first | exact Or.inl rfl | exact Or.inr rfl) (pe_call (ok_neighbours T B) (hr.mono (by decide)) (by rfl) T.g_neighbours T.F_neighbours.kp T.b_neighbours .nil pass0 (pa_cons (pv 3) (pa_cons (pv 2) pa_nil))))
      (pss_cons (ps_if (pt_cmpR (kx_eq (K := K) hr.units) (pe_callB (kx_len (K := K)) (by rfl) T.z_len (by decide +kernel) (pa_cons (pv 4) pa_nil)) pe_int (nomark _)) (pss_one (ps_ret (pe_tup (pa_cons pe_str (pa_cons (pv 3) (pa_cons (pe_ix (kx_ix (K := K)) (pv 4) pe_int (fun _ _ => rfl)) (pa_cons (pe_ix (kx_ix (K := K)) (pv 4) pe_int (fun _ _ => rfl)) pa_nil))))))) pss_nil)
      (pss_one (ps_ret (pe_call (ok_three_step T B) (hr.mono (by decide)) (by rfl) T.g_three_step T.F_three_step.kp T.b_three_step .nil pass0 (pa_cons (pv 0) (pa_cons (pv 3) (pa_cons (pv 4) (pa_cons (pv 2) pa_nil)))))))))), ?_⟩)
  all_goals (try simp only [nox_K, blk_K, cx_K])
  · rintro ds d ⟨n, k, js, l, s, rfl, _⟩; rfl
  · rintro ds d ⟨n, k, js, l, s, rfl, hn, hl, ok, hk, hs, rfl⟩
    have cn : ∀ j : Nat, R_nbr [natD j, .list (l.map prD)] (.list ((nbrs j l).map PyData.int)) := fun j => ⟨j, l, rfl, by omega, rfl⟩
    have h0 : 0 < js.length := Nat.lt_of_le_of_lt (Nat.zero_le _) (List.getElem?_eq_some_iff.mp hk).1
    refine wp_seq (wp_asg (d := natD k) (ed_keyB (xs := natL js) (ms := keyM js l) (ed_var rfl) (by rw [natL_len]; exact h0) (fun i x hx => ?_) (by rw [natL_len, natL_eq, List.getElem?_map, hk]; rfl)) ?_)
    · obtain ⟨_, rfl⟩ := natL_some hx
      exact ED.of (ed_len (ed_call (ea_cons (ed_var rfl) (ea_cons (ed_var rfl) ea_nil)) (cn _)) rfl) (by rw [List.length_map]; rfl)
    refine wp_seq (wp_asg (d := .list ((nbrs k l).map PyData.int)) (ed_call (ea_cons (ed_var rfl) (ea_cons (ed_var rfl) ea_nil)) (cn k)) ?_)
    rcases hs with ⟨a, b, hb, rfl⟩ | ⟨a, b, c, r, hb, hc, hf⟩
    · rw [hb]
      refine wp_seq (wp_if (b := true) (et_B (ed_eqD (x := .int 2) (y := .int 2) (ed_len (ed_var rfl) rfl) ed_int (Shp.shaped (n := 0) shp_int) (Shp.shaped (n := 0) shp_int) rfl)) (fun _ => ?_) fun z => by cases z)
      exact wp_ret (ed_tup (ea_cons ed_str (ea_cons (ed_var rfl) (ea_cons (ed_ix (ed_var rfl) ed_int rfl) (ea_cons (ed_ix (ed_var rfl) ed_int rfl) ea_nil)))) (sz_small (by simp))) rfl
    · rw [hb]
      refine wp_seq (wp_if (b := false) (et_B (ed_eqD (x := .int 3) (y := .int 2) (ed_len (ed_var rfl) rfl) ed_int (Shp.shaped (n := 0) shp_int) (Shp.shaped (n := 0) shp_int) rfl)) (fun z => by cases z) fun _ => wp_next ?_)
      have c3 : R_three [natD n, natD k, .list [natD a, natD b, natD c], .list (l.map prD)] s.d := ⟨n, k, a, b, c, l, s, r, rfl, hn, hl, ok, hc, hf, rfl⟩
      exact wp_ret (ed_call (ea_cons (ed_var rfl) (ea_cons (ed_var rfl) (ea_cons (ed_var rfl) (ea_cons (ed_var rfl) ea_nil)))) c3) rfl

theorem othI_nat {k : Nat} {p : Peb.Pr} (h : Hen.at_ k p = true) : othI k p = ((Hen.oth k p : Nat) : Int) := by
  unfold Hen.at_ at h
  rw [Bool.or_eq_true, beq_iff_eq, beq_iff_eq] at h
  unfold othI Hen.oth
  omega
def nbN (k : Nat) (l : List Peb.Pr) : List Nat := (nbrs k l).map Int.toNat
theorem nb_perm (k : Nat) (l : List Peb.Pr) : (nbN k l).Perm ((l.filter (Hen.at_ k)).map (Hen.oth k)) := by
  have h := (asc_perm ((l.filter (Hen.at_ k)).map (othI k))).map Int.toNat
  rw [List.map_map] at h
  have e : (l.filter (Hen.at_ k)).map (Int.toNat ∘ othI k) = (l.filter (Hen.at_ k)).map (Hen.oth k) := List.map_congr_left fun p mp => by
    show (othI k p).toNat = _
    rw [othI_nat (List.mem_filter.mp mp).2, Int.toNat_natCast]
  rw [e] at h
  exact h
theorem nb_eq (k : Nat) (l : List Peb.Pr) : nbrs k l = (nbN k l).map fun (x : Nat) => (x : Int) := by
  unfold nbN
  rw [List.map_map]
  have : (nbrs k l).map ((fun (x : Nat) => (x : Int)) ∘ Int.toNat) = (nbrs k l).map id := List.map_congr_left fun i mi => by
    have m := (asc_perm _).mem_iff.mp mi
    obtain ⟨p, mp, rfl⟩ := List.mem_map.mp m
    show ((othI k p).toNat : Int) = othI k p
    rw [othI_nat (List.mem_filter.mp mp).2, Int.toNat_natCast]
  rw [this, List.map_id]
theorem nb_len (k : Nat) (l : List Peb.Pr) : (nbN k l).length = Hen.deg k l := by
  rw [(nb_perm k l).length_eq, List.length_map]; rfl
theorem nb_len2 (k : Nat) (l : List Peb.Pr) : (nbrs k l).length = Hen.deg k l := by
  rw [nb_eq, List.length_map, nb_len]
theorem nb_lt {n k : Nat} {l : List Peb.Pr} (i : Peb.Ind n l) (g : Hen.Good n l) : (nbN k l).Pairwise (· < ·) := by
  have h1 : (nbN k l).Nodup := (nb_perm k l).nodup_iff.mpr (Hen.oth_nodup i g)
  have h2 : (nbN k l).Pairwise (· ≤ ·) := by
    have := asc_pw ((l.filter (Hen.at_ k)).map (othI k))
    have h3 : (nbrs k l).Pairwise (· ≤ ·) := this
    rw [nb_eq, List.pairwise_map] at h3
    exact h3.imp fun h => by omega
  exact (h2.and h1).imp fun h => Nat.lt_of_le_of_ne h.1 h.2
theorem nb_mem {k x : Nat} {l : List Peb.Pr} : x ∈ nbN k l ↔ ∃ p ∈ l, Hen.at_ k p = true ∧ Hen.oth k p = x := by
  rw [(nb_perm k l).mem_iff, List.mem_map]
  exact ⟨fun ⟨p, mp, e⟩ => ⟨p, (List.mem_filter.mp mp).1, (List.mem_filter.mp mp).2, e⟩, fun ⟨p, m, h, e⟩ => ⟨p, List.mem_filter.mpr ⟨m, h⟩, e⟩⟩
def mm (k a : Nat) : Peb.Pr := (min k a, max k a)
theorem at_mm {k : Nat} {p : Peb.Pr} (h : Hen.at_ k p = true) (u : p.1 < p.2) : p = mm k (Hen.oth k p) ∧ Hen.oth k p ≠ k ∧ (Hen.oth k p = p.1 ∨ Hen.oth k p = p.2) := by
  unfold Hen.at_ at h
  rw [Bool.or_eq_true, beq_iff_eq, beq_iff_eq] at h
  obtain ⟨a, b⟩ := p
  have h : a = k ∨ b = k := h
  have u : a < b := u
  have e : Hen.oth k (a, b) = a + b - k := rfl
  rw [e]
  refine ⟨?_, by omega, ?_⟩
  · show (a, b) = (min k (a + b - k), max k (a + b - k))
    rw [Prod.mk.injEq]
    omega
  · show a + b - k = a ∨ a + b - k = b
    omega
theorem mem_mm {k : Nat} {l : List Peb.Pr} (up : ∀ p ∈ l, p.1 < p.2) (p : Peb.Pr) : p ∈ l ↔ p ∈ Hen.off k l ∨ ∃ a ∈ nbN k l, p = mm k a := by
  constructor
  · intro m
    cases h : Hen.at_ k p with
    | true => exact .inr ⟨_, nb_mem.mpr ⟨p, m, h, rfl⟩, (at_mm h (up p m)).1⟩
    | false => exact .inl (List.mem_filter.mpr ⟨m, by rw [h]; rfl⟩)
  · rintro (m | ⟨a, m, rfl⟩)
    · exact (Hen.off_mem m).1
    · obtain ⟨q, mq, h, e⟩ := nb_mem.mp m
      rw [← e, ← (at_mm h (up q mq)).1]; exact mq
/-- what a step is, seen from below -/
def StepOk (js : List Nat) (l : List Peb.Pr) : Stp32 → Prop
  | .two k a b => k ∈ js ∧ (a ∈ js ∧ b ∈ js) ∧ (a ≠ k ∧ b ≠ k) ∧ a < b ∧ ∀ p, p ∈ l ↔ p ∈ Hen.off k l ∨ p = mm k a ∨ p = mm k b
  | .three k x y z => k ∈ js ∧ (x ∈ js ∧ y ∈ js ∧ z ∈ js) ∧ (x ≠ k ∧ y ≠ k ∧ z ≠ k) ∧ x < y ∧ x ≠ z ∧ y ≠ z ∧ (x, y) ∉ l ∧ ∀ p, p ∈ l ↔ p ∈ Hen.off k l ∨ p = mm k x ∨ p = mm k y ∨ p = mm k z
theorem list2 {u : List Nat} (h : u.length = 2) : ∃ a b, u = [a, b] := by
  match u, h with
  | [a, b], _ => exact ⟨a, b, rfl⟩
theorem list3 {u : List Nat} (h : u.length = 3) : ∃ a b c, u = [a, b, c] := by
  match u, h with
  | [a, b, c], _ => exact ⟨a, b, c, rfl⟩
theorem step_ok {n k : Nat} {js : List Nat} {l : List Peb.Pr} (b : Hen.Bld n js l) (h3 : 2 < js.length) (hk : js[argBest (fun i j => ltB (keyM js l i) (keyM js l j)) (js.length - 1)]? = some k) :
    ∃ s : Stp32, s.k = k ∧ ((∃ a b : Nat, nbrs k l = [(a : Int), (b : Int)] ∧ s = .two k a b) ∨ ∃ (a b c : Nat) (r : List Stp32), nbrs k l = [(a : Int), (b : Int), (c : Int)] ∧ (a < n ∧ b < n ∧ c < n ∧ a ≠ b ∧ a ≠ c ∧ b ≠ c) ∧ [Stp32.three k a b c, .three k a c b, .three k b c a].filter (fitM n l) = s :: r) ∧
      Hen.Bld n (js.erase k) (undM l s) ∧ StepOk js l s := by
  have km : k ∈ js := List.mem_of_getElem? hk
  have g2 := b.ge2 km h3
  have l3 : Hen.deg k l ≤ 3 := by
    obtain ⟨v, mv, hv⟩ := b.le3
    obtain ⟨i, hi, ei⟩ := List.mem_iff_getElem.mp mv
    have := (least_at (keyM js l) (js.length - 1)).2 i (by omega)
    have e1 : js.getD (argBest (fun i j => ltB (keyM js l i) (keyM js l j)) (js.length - 1)) 0 = k := by rw [List.getD_eq_getElem?_getD, hk]; rfl
    have e2 : js.getD i 0 = v := by rw [List.getD_eq_getElem?_getD, List.getElem?_eq_getElem hi, ei]; rfl
    have a1 : keyM js l (argBest (fun i j => ltB (keyM js l i) (keyM js l j)) (js.length - 1)) = ((Hen.deg k l : Nat) : Int) := by
      show (((nbrs (js.getD (argBest (fun i j => ltB (keyM js l i) (keyM js l j)) (js.length - 1)) 0) l).length : Nat) : Int) = _
      rw [e1, nb_len2]
    have a2 : keyM js l i = ((Hen.deg v l : Nat) : Int) := by
      show (((nbrs (js.getD i 0) l).length : Nat) : Int) = _
      rw [e2, nb_len2]
    omega
  have nm : ∀ x ∈ nbN k l, x ∈ js ∧ x ≠ k := fun x mx => by
    obtain ⟨p, mp, hp, rfl⟩ := nb_mem.mp mx
    obtain ⟨_, h1, h2⟩ := at_mm hp (b.up p mp)
    refine ⟨?_, h1⟩
    rcases h2 with e | e
    · rw [e]; exact (b.mem p mp).1
    · rw [e]; exact (b.mem p mp).2
  have inc := nb_lt (k := k) b.ind b.good
  have mem := mem_mm (k := k) b.up
  by_cases d2 : Hen.deg k l = 2
  · obtain ⟨x, y, e⟩ := list2 (by rw [nb_len]; exact d2)
    rw [e] at nm inc mem
    obtain ⟨x1, x2⟩ := nm x (by simp)
    obtain ⟨y1, y2⟩ := nm y (by simp)
    have xy : x < y := by
      have := (List.pairwise_cons.mp inc).1 y (by simp)
      exact this
    refine ⟨.two k x y, rfl, .inl ⟨x, y, by rw [nb_eq, e]; rfl, rfl⟩, b.two km d2, km, ⟨x1, y1⟩, ⟨x2, y2⟩, xy, fun p => ?_⟩
    rw [mem p]
    simp
  · have d3 : Hen.deg k l = 3 := by omega
    obtain ⟨x, y, z, e⟩ := list3 (by rw [nb_len]; exact d3)
    rw [e] at nm inc mem
    obtain ⟨x1, x2⟩ := nm x (by simp)
    obtain ⟨y1, y2⟩ := nm y (by simp)
    obtain ⟨z1, z2⟩ := nm z (by simp)
    obtain ⟨i1, i2⟩ := List.pairwise_cons.mp inc
    have xy : x < y := i1 y (by simp)
    have xz : x < z := i1 z (by simp)
    have yz : y < z := (List.pairwise_cons.mp i2).1 z (by simp)
    have near : ∀ p ∈ l, (p.1 = k → p.2 = x ∨ p.2 = y ∨ p.2 = z) ∧ (p.2 = k → p.1 = x ∨ p.1 = y ∨ p.1 = z) := fun p mp => by
      have key : Hen.at_ k p = true → Hen.oth k p = x ∨ Hen.oth k p = y ∨ Hen.oth k p = z := fun h => by
        have := nb_mem.mpr ⟨p, mp, h, rfl⟩
        rw [e] at this
        simpa using this
      constructor
      · intro e1
        have := key (by unfold Hen.at_; simp [e1])
        unfold Hen.oth at this
        omega
      · intro e1
        have := key (by unfold Hen.at_; simp [e1])
        unfold Hen.oth at this
        omega
    have fit : ∀ a c w : Nat, a ∈ js → c ∈ js → a ≠ c → a ≠ k → c ≠ k → Peb.Ind n (Hen.off k l ++ [(a, c)]) → fitM n l (.three k a c w) = true := fun a c w ha hc hac ka kc hi => by
      have no : (a, c) ∉ l := fun m => Hen.no_twice (b.lt a ha) (b.lt c hc) hac hi (Hen.mem_off m ka kc)
      unfold fitM
      rw [Bool.and_eq_true]
      exact ⟨by rw [decide_eq_false no]; rfl, decide_eq_true hi⟩
    have some_ : ∃ s ∈ [Stp32.three k x y z, .three k x z y, .three k y z x], fitM n l s = true := by
      rcases Hen.three b.ind b.good (b.lt k km) (b.lt x x1) (b.lt y y1) (b.lt z z1) (Nat.ne_of_lt xy) (Nat.ne_of_lt xz) (Nat.ne_of_lt yz) x2 y2 z2 d3 near with h | h | h
      · exact ⟨_, by simp, fit x y z x1 y1 (Nat.ne_of_lt xy) x2 y2 h⟩
      · exact ⟨.three k x z y, by simp, fit x z y x1 z1 (Nat.ne_of_lt xz) x2 z2 h⟩
      · exact ⟨.three k y z x, by simp, fit y z x y1 z1 (Nat.ne_of_lt yz) y2 z2 h⟩
    obtain ⟨s0, m0, f0⟩ := some_
    cases hf : [Stp32.three k x y z, .three k x z y, .three k y z x].filter (fitM n l) with
    | nil =>
      have := List.mem_filter.mpr ⟨m0, f0⟩
      rw [hf] at this; cases this
    | cons s r =>
      have ms : s ∈ [Stp32.three k x y z, .three k x z y, .three k y z x].filter (fitM n l) := by rw [hf]; exact List.mem_cons_self ..
      obtain ⟨ms, fs⟩ := List.mem_filter.mp ms
      obtain ⟨a, c, w, rfl, ac, ha, hc, hw, ka, kc, kw, aw, cw, hp⟩ : ∃ a c w : Nat, s = .three k a c w ∧ a < c ∧ a ∈ js ∧ c ∈ js ∧ w ∈ js ∧ a ≠ k ∧ c ≠ k ∧ w ≠ k ∧ a ≠ w ∧ c ≠ w ∧ ∀ v : Nat, (v = x ∨ v = y ∨ v = z) ↔ (v = a ∨ v = c ∨ v = w) := by
        simp only [List.mem_cons, List.not_mem_nil, or_false] at ms
        rcases ms with rfl | rfl | rfl
        · exact ⟨x, y, z, rfl, xy, x1, y1, z1, x2, y2, z2, Nat.ne_of_lt xz, Nat.ne_of_lt yz, fun v => Iff.rfl⟩
        · exact ⟨x, z, y, rfl, xz, x1, z1, y1, x2, z2, y2, Nat.ne_of_lt xy, Nat.ne_of_gt yz, fun v => by omega⟩
        · exact ⟨y, z, x, rfl, yz, y1, z1, x1, y2, z2, x2, Nat.ne_of_gt xy, Nat.ne_of_gt xz, fun v => by omega⟩
      unfold fitM at fs
      rw [Bool.and_eq_true, Bool.not_eq_true', decide_eq_false_iff_not, decide_eq_true_iff] at fs
      refine ⟨_, rfl, .inr ⟨x, y, z, r, by rw [nb_eq, e]; rfl, ⟨b.lt x x1, b.lt y y1, b.lt z z1, Nat.ne_of_lt xy, Nat.ne_of_lt xz, Nat.ne_of_lt yz⟩, hf⟩, b.three km d3 ha hc ka kc ac fs.2, km, ⟨ha, hc, hw⟩, ⟨ka, kc, kw⟩, ac, aw, cw, fs.1, fun p => ?_⟩
      rw [mem p]
      constructor
      · rintro (m | ⟨v, mv, rfl⟩)
        · exact .inl m
        · have : v = x ∨ v = y ∨ v = z := by simpa using mv
          rcases (hp v).mp this with rfl | rfl | rfl
          · exact .inr (.inl rfl)
          · exact .inr (.inr (.inl rfl))
          · exact .inr (.inr (.inr rfl))
      · rintro (m | rfl | rfl | rfl)
        · exact .inl m
        · exact .inr ⟨a, by have := (hp a).mpr (.inl rfl); simpa using this, rfl⟩
        · exact .inr ⟨c, by have := (hp c).mpr (.inr (.inl rfl)); simpa using this, rfl⟩
        · exact .inr ⟨w, by have := (hp w).mpr (.inr (.inr rfl)); simpa using this, rfl⟩

inductive Chain (js0 : List Nat) (l0 : List Peb.Pr) : List Stp32 → List Nat → List Peb.Pr → Prop
  | nil : Chain js0 l0 [] js0 l0
  | snoc {ss : List Stp32} {js : List Nat} {l : List Peb.Pr} {s : Stp32} : Chain js0 l0 ss js l → StepOk js l s → Chain js0 l0 (ss ++ [s]) (js.erase s.k) (undM l s)
structure GB where
  n : Nat
  x : D
  pairs : List Peb.Pr
def pairS (js : List Nat) : D := .tuple [.str "pair", natD (js.getD 0 0), natD (js.getD 1 0)]
def Pre_bld (g : GB) (ds : List D) : Prop := ds = [.tuple [natD g.n, g.x]] ∧ itemsD g.x = some (g.pairs.map prD) ∧ (∀ p ∈ g.pairs, p.1 < p.2 ∧ p.2 < g.n) ∧ 2 ≤ g.n ∧ g.n ≤ 400 ∧ g.pairs.length ≤ 900
def Post_bld (g : GB) (d : D) : Prop := (((Peb.chM g.n [] g.pairs).length : Int) < 2 * (g.n : Int) - 3 → d = .none) ∧ (¬ ((Peb.chM g.n [] g.pairs).length : Int) < 2 * (g.n : Int) - 3 →
  ∃ (ss : List Stp32) (js : List Nat) (l : List Peb.Pr), Chain (List.range g.n) (Peb.chM g.n [] g.pairs) ss js l ∧ Hen.Bld g.n js l ∧ js.Pairwise (· < ·) ∧ js.length = 2 ∧ ss.length + 2 = g.n ∧ d = .list (ss.map Stp32.d ++ [pairS js]).reverse)
theorem insP_all (l : List Peb.Pr) : Peb.insP (fun _ => true) l = l.length := by
  unfold Peb.insP
  exact congrArg List.length (List.filter_eq_self.mpr fun _ _ => rfl)
theorem cnt_all (n : Nat) : Peb.cnt n (fun _ => true) = n := by
  have := Hen.cnt_mem (n := n) (List.range n) List.nodup_range (fun x mx => List.mem_range.mp mx)
  rw [List.length_range] at this
  have e : Peb.cnt n (fun _ => true) = Peb.cnt n (fun v => decide (v ∈ List.range n)) := by
    rw [Hen.cnt_eq, Hen.cnt_eq]
    refine Peb.sumR_congr fun v hv => ?_
    rw [decide_eq_true (List.mem_range.mpr hv)] <;> rfl
  rw [e, this]
theorem ind_len {n : Nat} {l : List Peb.Pr} (h : Peb.Ind n l) (h2 : 2 ≤ n) : l.length + 3 ≤ 2 * n := by
  have := h (fun _ => true) (by rw [cnt_all]; exact h2)
  rw [insP_all, cnt_all] at this
  exact this
theorem bld_start {n : Nat} {l : List Peb.Pr} (i : Peb.Ind n l) (h2 : 2 ≤ n) (g : ∀ p ∈ l, p.1 < p.2 ∧ p.2 < n) (hl : ¬ (l.length : Int) < 2 * (n : Int) - 3) : Hen.Bld n (List.range n) l where
  ind := i
  good := fun p mp => ⟨Nat.lt_trans (g p mp).1 (g p mp).2, (g p mp).2, Nat.ne_of_lt (g p mp).1⟩
  up := fun p mp => (g p mp).1
  mem := fun p mp => ⟨List.mem_range.mpr (Nat.lt_trans (g p mp).1 (g p mp).2), List.mem_range.mpr (g p mp).2⟩
  nd := List.nodup_range
  lt := fun x mx => List.mem_range.mp mx
  len := by
    have := ind_len i h2
    rw [List.length_range]
    omega
theorem flt_d (s : Stp32) : Flt s.d := by
  cases s <;> (intro d md; simp only [List.mem_cons, List.not_mem_nil, or_false] at md; rcases md with rfl | rfl | rfl | rfl | rfl <;> exact True.intro)
theorem natL_erase {js : List Nat} {j : Nat} : (natL js).eraseIdx j = natL (js.eraseIdx j) := by
  rw [natL_eq, natL_eq]
  induction js generalizing j with
  | nil => rfl
  | cons a js ih =>
    cases j with
    | zero => rfl
    | succ j => exact congrArg (natD a :: ·) ih
theorem erase_nd : ∀ {js : List Nat} {j k : Nat}, js.Nodup → js[j]? = some k → js.erase k = js.eraseIdx j
  | [], j, k, _, h => by cases j <;> cases h
  | a :: js, 0, k, _, h => by
    cases h
    rw [List.erase_cons_head]; rfl
  | a :: js, j + 1, k, nd, h => by
    obtain ⟨n1, n2⟩ := List.nodup_cons.mp nd
    have h : js[j]? = some k := h
    have hne : ¬ a = k := fun e => n1 (e ▸ List.mem_of_getElem? h)
    rw [List.erase_cons_tail (by simpa using hne), erase_nd n2 h]; rfl
theorem natD_eqv (a b : Nat) : PyData.eqv (natD a) (natD b) = decide (a = b) := by
  show ((a : Int) == (b : Int)) = _
  rw [Bool.eq_iff_iff, beq_iff_eq, decide_eq_true_iff]
  omega
theorem ok_building (T : Txt K mg) (B : Lams T base w) : FnOk P w K mg base CX0 9 T.f_building T.fd_building ["net"] (spG K Pre_bld Post_bld) := by
  refine ok_wpG T.F_building sc_building ?_ (fun cdv hcv A outer s H E hr => ⟨_, (pss_cons (ps_asg (pv 0) (kpg_tup (K := K) (n := 2) rfl (pgs_cons (pg_name (i := 1) sc_building.nd rfl (by first | exact Or.inl rfl | exact Or.inr rfl)) (pgs_cons (pg_name (i := 2) sc_building.nd rfl (by first | exact Or.inl rfl | exact Or.inr rfl)) pgs_nil))))
      (pss_cons (ps_set (i := 3) sc_building.nd rfl (by first | exact Or.inl rfl | exact Or.inr rfl) (pe_call (ok_chosen T B) (hr.mono (by decide)) (by rfl) T.g_chosen T.F_chosen.kp T.b_chosen .nil pass0 (pa_cons (pv 0) pa_nil)))
      (pss_cons (ps_if (pt_cmpR op_lt (pe_callB (kx_len (K := K)) (by rfl) T.z_len (by decide +kernel) (pa_cons (pv 3) pa_nil)) (pe_op op_sub (pe_op op_mulX pe_int (pv 1)) pe_int) (nomark _)) (pss_one (ps_ret pe_non)) pss_nil)
      (pss_cons (ps_set (i := 4) sc_building.nd rfl (by first | exact Or.inl rfl | exact Or.inr rfl) (pe_listRg rfl (by rfl) T.z_list (prg_1 (by rfl) T.z_range (pv 1))))
      (pss_cons (ps_set (i := 5) sc_building.nd rfl (by first | exact Or.inl rfl | exact Or.inr rfl) (pe_lst pa_nil))
      (pss_cons (ps_while PassesOwn.never (pt_cmpR op_gt (pe_callB (kx_len (K := K)) (by rfl) T.z_len (by decide +kernel) (pa_cons (pv 4) pa_nil)) pe_int (nomark _)) (pss_cons (ps_set (i := 6) sc_building.nd rfl (by first | exact Or.inl rfl | exact Or.inr rfl) (pe_call (ok_last_step T B) (hr.mono (by decide)) (by rfl) T.g_last_step T.F_last_step.kp T.b_last_step .nil pass0 (pa_cons (pv 1) (pa_cons (pv 4) (pa_cons (pv 3) pa_nil)))))
      (pss_cons (ps_expr (pe_bm PySem.F.plainAttrs_list PySem.F.slot_list_append PySem.F.type_list_append mt_append (pv 5) (pa_cons (pv 6) pa_nil)))
      (pss_cons (ps_expr (pe_bm PySem.F.plainAttrs_list PySem.F.slot_list_remove PySem.F.type_list_remove (mt_removeD (K := K) (hu65 hr)) (pv 4) (pa_cons (pe_ix (kx_ix (K := K)) (pv 6) pe_int (fun _ _ => rfl)) pa_nil)))
      (pss_one (ps_set (i := 3) sc_building.nd rfl (by first | exact Or.inl rfl | exact Or.inr rfl) (pe_call (ok_undone T B) (hr.mono (by decide)) (by rfl) T.g_undone T.F_undone.kp T.b_undone .nil pass0 (pa_cons (pv 3) (pa_cons (pv 6) pa_nil)))))))))
      (pss_cons (ps_expr (pe_bm PySem.F.plainAttrs_list PySem.F.slot_list_append PySem.F.type_list_append mt_append (pv 5) (pa_cons (pe_tup (pa_cons pe_str (pa_cons (pe_ix (kx_ix (K := K)) (pv 4) pe_int (fun _ _ => rfl)) (pa_cons (pe_ix (kx_ix (K := K)) (pv 4) pe_int (fun _ _ => rfl)) pa_nil)))) pa_nil)))
      (pss_one (ps_ret (kpe_rev (K := K) (pv 5))))))))))), ?_⟩)
  all_goals (try simp only [nox_K, blk_K, cx_K])
  · rintro g ds ⟨rfl, _⟩; rfl
  · rintro ⟨n, x, pairs⟩ ds ⟨rfl, hx, hp, h2, hn, hl⟩
    have hx : itemsD x = some (pairs.map prD) := hx
    have hp : ∀ p ∈ pairs, p.1 < p.2 ∧ p.2 < n := hp
    have h2 : 2 ≤ n := h2
    have hn : n ≤ 400 := hn
    have hl : pairs.length ≤ 900 := hl
    have ok : PrOk n pairs := fun p mp => ⟨Nat.lt_trans (hp p mp).1 (hp p mp).2, (hp p mp).2, Nat.ne_of_lt (hp p mp).1⟩
    have cc : R_chosen [.tuple [natD n, x]] (.list ((Peb.chM n [] pairs).map prD)) := ⟨n, x, pairs, rfl, hx, ok, by omega, by omega, rfl⟩
    have ind : Peb.Ind n (Peb.chM n [] pairs) := Peb.chM_ind _ _ Peb.Ind.nil
    have sub : ∀ p ∈ Peb.chM n [] pairs, p.1 < p.2 ∧ p.2 < n := fun p mp => by
      rcases Peb.chM_sub pairs [] p mp with z | z
      · cases z
      · exact hp p z
    refine wp_seq (wp_asgG (d := .tuple [natD n, x]) (ed_var rfl) (gd_tup (gds_cons gd_name (gds_cons gd_name gds_nil)) rfl) ?_)
    refine wp_seq (wp_asg (ed_call (ea_cons (ed_var rfl) ea_nil) cc) ?_)
    refine wp_seq (wp_if (b := decide ((((Peb.chM n [] pairs).map prD).length : Int) < 2 * (n : Int) - 3)) (by repeat' first | walk_at "ev2" | exact mulL (by decide) | fail) (fun hb => ?_) fun hb => ?_)
    · rw [decide_eq_true_eq, List.length_map] at hb
      exact wp_ret ed_non ⟨fun _ => rfl, fun h => absurd hb h⟩
    rw [decide_eq_false_iff_not, List.length_map] at hb
    have bs := bld_start ind h2 sub hb
    refine wp_next ?_
    refine wp_seq (wp_asgN (ds := natL (List.range n)) (EN.of (en_listRg (n := (n : Int)) (ed_var rfl) (by omega) (by omega)) (by rw [natL_eq, Int.toNat_natCast]; rfl)) ?_)
    refine wp_seq (wp_asgN (en_lst ea_nil (by decide)) ?_)
    refine wp_seq (wp_while (fun m δ => ∃ (ss : List Stp32) (js : List Nat) (l : List Peb.Pr) (a : SV), δ = [.val (.tuple [natD n, x]), .val (natD n), .val x, .val (.list (l.map prD)), .own (.l (natL js)), .own (.l (ss.map Stp32.d)), a] ∧ Chain (List.range n) (Peb.chM n [] pairs) ss js l ∧ Hen.Bld n js l ∧ js.Pairwise (· < ·) ∧ 2 ≤ js.length ∧ ss.length + js.length = n ∧ m = js.length) (n := _) ⟨[], List.range n, _, _, rfl, .nil, bs, List.pairwise_lt_range, by rw [List.length_range]; exact h2, by rw [List.length_range]; exact Nat.zero_add n, rfl⟩ ?_)
    rintro m δ ⟨ss, js, l, a, rfl, ch, b, pw, j2, sl, rfl⟩
    have ll := ind_len b.ind h2
    refine ⟨decide ((2 : Int) < ((natL js).length : Int)), ET.of (b := decide (((natL js).length : Int) > 2)) (by repeat' first | exact ed_lenOwn rfl | walk_at "ev2" | fail) rfl, fun hb => ?_, fun hb => ?_⟩
    · rw [decide_eq_true_eq, natL_len] at hb
      have h0 : js.length - 1 < js.length := by omega
      have hbest := (least_at (keyM js l) (js.length - 1)).1
      obtain ⟨k, hk⟩ : ∃ k, js[argBest (fun i j => ltB (keyM js l i) (keyM js l j)) (js.length - 1)]? = some k := ⟨_, List.getElem?_eq_getElem (by omega)⟩
      obtain ⟨s, sk, hs, b', so⟩ := step_ok b (by omega) hk
      have c1 : R_last [natD n, .list (natL js), .list (l.map prD)] s.d := ⟨n, k, js, l, s, rfl, by omega, by omega, fun p mp => b.good p mp, hk, hs, rfl⟩
      refine wp_seq (wp_asgP (P := fun d => d = s.d) (ep_thawT (i := 4) rfl (ED.ep (ed_call (ea_cons (ed_var rfl) (ea_cons (ed_var rfl) (ea_cons (ed_var rfl) ea_nil))) c1)) fun d hd => by rw [hd]; exact flt_d s) fun d hd => ?_)
      subst hd
      refine wp_seq (wp_app rfl (ed_var rfl) (by rw [List.length_map]; exact small1000 (by omega)) ?_)
      have km : k ∈ js := List.mem_of_getElem? hk
      obtain ⟨j, hj, ej⟩ := List.mem_iff_getElem.mp km
      refine wp_seq (wp_removeD (j := j) (d := natD k) (z := natD k) rfl ?_ (Shp.shaped (n := 1) shp_ints) (Shp.shaped (n := 0) shp_int) (by rw [natL_get hj, List.getD_eq_getElem?_getD, List.getElem?_eq_getElem hj, ej]; rfl) (by rw [natD_eqv, decide_eq_true rfl]) (fun m' z' hm hz => ?_) ?_)
      · subst sk
        cases s <;> exact ed_ix (ed_var rfl) ed_int rfl
      · obtain ⟨hm2, rfl⟩ := natL_some hz
        rw [natD_eqv, decide_eq_false_iff_not, List.getD_eq_getElem?_getD, List.getElem?_eq_getElem hm2]
        show ¬ js[m'] = k
        intro e
        have := (List.getElem_inj b.nd).mp (e.trans ej.symm)
        omega
      · have c2 : R_und [.list (l.map prD), s.d] (.list ((undM l s).map prD)) := ⟨l, s, rfl, by omega, rfl⟩
        have er : js.erase k = js.eraseIdx j := erase_nd b.nd (by rw [List.getElem?_eq_getElem hj, ej])
        refine wp_asg (ed_call (ea_cons (ed_var rfl) (ea_cons (ed_var rfl) ea_nil)) c2) ⟨_, ?_, ss ++ [s], js.erase k, undM l s, .val s.d, ?_, ?_, b', pw.sublist List.erase_sublist, ?_, ?_, rfl⟩
        · rw [List.length_erase_of_mem km]; omega
        · rw [natL_erase, ← er, List.map_append]; rfl
        · subst sk; exact .snoc ch so
        · rw [List.length_erase_of_mem km]; omega
        · rw [List.length_erase_of_mem km, List.length_append]
          show ss.length + 1 + _ = _
          omega
    · rw [decide_eq_false_iff_not, natL_len] at hb
      have e2 : js.length = 2 := by omega
      obtain ⟨j0, j1, rfl⟩ := list2 e2
      refine wp_seq (wp_app (d := pairS [j0, j1]) rfl (ed_tup (ea_cons ed_str (ea_cons (ed_ixOwn (i := 0) rfl ed_int rfl) (ea_cons (ed_ixOwn (i := 1) rfl ed_int rfl) ea_nil))) (sz_small (by simp))) (by rw [List.length_map]; exact small1000 (by omega)) ?_)
      refine wp_freeze 5 rfl ?_
      exact wp_ret (EN.ed (en_rev (ed_var rfl))) ⟨fun h => absurd h ‹_›, fun _ => ⟨ss, [j0, j1], l, ch, b, pw, rfl, by have := sl; exact this, rfl⟩⟩

def Sm (k : Nat) (a : Int × Int) : Prop := Lt k a.1 ∧ Lt k a.2 ∧ a.2 ≠ 0
/-! ### the law's own helpers -/
def R_cell (ds : List D) (d : D) : Prop := ∃ (ns : List Int) (k : Nat), ds = [.list (ns.map PyData.int), .int k] ∧ d = .int (ns.getD k 0)
theorem ok_u_law_cell (T : Txt K mg) (B : Lams T base w) : FnOk P w K mg base CX0 1 T.f_u_law_cell T.fd_u_law_cell ["script", "k"] (spD K R_cell) := by
  refine ok_wp T.F_u_law_cell sc_u_law_cell ?_ (fun cdv hcv A outer s H E hr => ⟨_, (pss_cons (ps_if (pt_cmpR op_lt (pv 1) (pe_callB (kx_len (K := K)) (by rfl) T.z_len (by decide +kernel) (pa_cons (pv 0) pa_nil)) (nomark _)) (pss_one (ps_ret (pe_ix (kx_ix (K := K)) (pv 0) (pv 1) (fun _ _ => rfl)))) pss_nil)
      (pss_one (ps_ret pe_int))), ?_⟩)
  all_goals (try simp only [nox_K, blk_K, cx_K])
  · rintro ds d ⟨ns, k, rfl, _⟩; rfl
  · rintro ds d ⟨ns, k, rfl, rfl⟩
    refine wp_seq (wp_if (by walk_at "ev") (fun h => ?_) (fun h => ?_))
    · have h : (k : Int) < ((ns.map PyData.int).length : Nat) := of_decide_eq_true h
      rw [List.length_map] at h
      have hk : k < ns.length := by omega
      refine wp_ret (d := .int ns[k]) (by walk_at "ev"; exact atI_map (List.getElem?_eq_getElem hk)) ?_
      show PyData.int _ = .int _
      rw [List.getD_eq_getElem?_getD, List.getElem?_eq_getElem hk]
      rfl
    · have h : ¬ (k : Int) < ((ns.map PyData.int).length : Nat) := of_decide_eq_false h
      rw [List.length_map] at h
      refine wp_next (wp_ret (by walk_at "ev") ?_)
      show PyData.int _ = .int _
      rw [List.getD_eq_getElem?_getD, List.getElem?_eq_none (by omega)]
      rfl
def mixM (cell : Int) (k : Nat) : Int :=
  let m1 := (cell * 48271 + (k : Int) * 69621 + 11) % 2147483647
  ((m1 * m1 + 16807 * (k : Int) + 5) % 998244353).fdiv 7
def partsM (cell : Int) : List Int → Nat → Int → List Int
  | [], _, _ => []
  | s :: ss, k, left => (if left ≥ 0 then left % s else mixM cell k % s) :: partsM cell ss (k + 1) (if left ≥ 0 then left.fdiv s else left)
def partsOf (cell : Int) (sizes : List Int) : List Int := partsM cell sizes 0 (cell - 10 ^ 18)
def R_parts (ds : List D) (d : D) : Prop := ∃ (cell : Int) (sizes : List Int), ds = [.int cell, .list (sizes.map PyData.int)] ∧ (∀ s ∈ sizes, 0 < s ∧ Lt 8000 s) ∧ sizes.length ≤ 1000 ∧ d = .list ((partsOf cell sizes).map PyData.int)
theorem ok_u_law_parts (T : Txt K mg) (B : Lams T base w) : FnOk P w K mg base CX0 1 T.f_u_law_parts T.fd_u_law_parts ["cell", "sizes"] (spD K R_parts) := by
  refine ok_wp T.F_u_law_parts sc_u_law_parts ?_ (fun cdv hcv A outer s H E hr => ⟨_, (pss_cons (ps_set (i := 2) sc_u_law_parts.nd rfl (by first | exact Or.inl rfl | exact Or.inr rfl) (pe_lst pa_nil))
      (pss_cons (ps_set (i := 3) sc_u_law_parts.nd rfl (by first | exact Or.inl rfl | exact Or.inr rfl) (pe_op op_sub (pv 0) (pe_op op_pow pe_int pe_int)))
      (pss_cons (ps_for PassesOwn.never rfl (pi_range1 (by rfl) T.z_range (pa_cons (pe_callB (kx_len (K := K)) (by rfl) T.z_len (by decide +kernel) (pa_cons (pv 1) pa_nil)) pa_nil)) (pg_name (i := 4) sc_u_law_parts.nd rfl (by first | exact Or.inl rfl | exact Or.inr rfl))
      (pss_one (ps_if (pt_cmpR op_ge (pv 3) pe_int (nomark _)) (pss_cons (ps_expr (pe_bm PySem.F.plainAttrs_list PySem.F.slot_list_append PySem.F.type_list_append mt_append (pv 2) (pa_cons (pe_op op_mod (pe_callTy cr_intQ (by rfl) T.z_int (by decide +kernel) (pa_cons (pv 3) pa_nil)) (pe_ix (kx_ix (K := K)) (pv 1) (pv 4) (fun _ _ => rfl))) pa_nil)))
      (pss_one (ps_set (i := 3) sc_u_law_parts.nd rfl (by first | exact Or.inl rfl | exact Or.inr rfl) (pe_op op_fdivX (pv 3) (pe_ix (kx_ix (K := K)) (pv 1) (pv 4) (fun _ _ => rfl)))))) (pss_cons (ps_set (i := 5) sc_u_law_parts.nd rfl (by first | exact Or.inl rfl | exact Or.inr rfl) (pe_op op_mod (pe_callTy cr_intQ (by rfl) T.z_int (by decide +kernel) (pa_cons (pe_op op_add (pe_op op_add (pe_op op_mulX (pv 0) pe_int) (pe_op op_mulX (pv 4) pe_int)) pe_int) pa_nil)) pe_int))
      (pss_cons (ps_set (i := 5) sc_u_law_parts.nd rfl (by first | exact Or.inl rfl | exact Or.inr rfl) (pe_op op_mod (pe_callTy cr_intQ (by rfl) T.z_int (by decide +kernel) (pa_cons (pe_op op_add (pe_op op_add (pe_op op_mulX (pv 5) (pv 5)) (pe_op op_mulX pe_int (pv 4))) pe_int) pa_nil)) pe_int))
      (pss_one (ps_expr (pe_bm PySem.F.plainAttrs_list PySem.F.slot_list_append PySem.F.type_list_append mt_append (pv 2) (pa_cons (pe_op op_mod (pe_callTy cr_intQ (by rfl) T.z_int (by decide +kernel) (pa_cons (pe_op op_fdivX (pv 5) pe_int) pa_nil)) (pe_ix (kx_ix (K := K)) (pv 1) (pv 4) (fun _ _ => rfl))) pa_nil)))))))))
      (pss_one (ps_ret (pv 2)))))), ?_⟩)
  all_goals (try simp only [nox_K, blk_K, cx_K])
  · rintro ds d ⟨cell, sizes, rfl, _⟩; rfl
  · rintro ds d ⟨cell, sizes, rfl, hs, hl, rfl⟩
    refine wp_seq (wp_asgN (by walk_at "ev") ?_)
    refine wp_seq (wp_asg (ED.of (d' := .int (cell - 10 ^ 18)) (by walk_at "ev") rfl) ?_)
    refine wp_seq (wp_forG (xs := List.range sizes.length) (g := fun k => PyData.int (k : Nat))
      (fun k δ => ∃ (ps : List Int) (left : Int) (z w : SV), δ = [.val (.int cell), .val (.list (sizes.map PyData.int)), .own (.l (ps.map PyData.int)), .val (.int left), z, w] ∧ k ≤ sizes.length ∧ ps.length = k ∧ ps ++ partsM cell (sizes.drop k) k left = partsOf cell sizes)
      (by repeat' first | walk_at "ev2" | (show (_ : Int) = _; rw [List.length_map]; done) | (show (_ : Nat) ≤ _; omega) | fail) ⟨[], _, _, _, rfl, Nat.zero_le _, rfl, by rw [List.drop_zero]; rfl⟩ ?_ ?_)
    · rintro k x δ ex ⟨ps, left, z, w, rfl, hk, hp, inv⟩
      have hk2 : k < sizes.length := by
        have := (List.getElem?_eq_some_iff.mp ex).1
        rwa [List.length_range] at this
      have hx : x = k := by
        rw [List.getElem?_range hk2] at ex
        exact (Option.some.inj ex).symm
      subst hx
      obtain ⟨s0, s1⟩ := hs sizes[x] (List.getElem_mem hk2)
      have at1 : atI (sizes.map PyData.int) (x : Int) = some (.int sizes[x]) := atI_map (List.getElem?_eq_getElem hk2)
      rw [List.drop_eq_getElem_cons hk2] at inv
      refine wp_if (by walk_at "ev") (fun h => ?_) (fun h => ?_)
      · have h : left ≥ 0 := of_decide_eq_true h
        refine wp_seq (wp_app (d := .int (left % sizes[x])) rfl (by repeat' first | walk_at "ev2" | exact at1 | exact s0 | fail) (by rw [List.length_map]; exact small1000 (by omega)) ?_)
        refine wp_asg (by repeat' first | walk_at "ev2" | exact at1 | exact divX (by omega) s1 | fail) ?_
        refine ⟨ps ++ [left % sizes[x]], left.fdiv sizes[x], .val (.int x), w, ?_, hk2, by rw [List.length_append, hp]; rfl, ?_⟩
        · rw [List.map_append]; rfl
        · rw [← inv, partsM, if_pos h, if_pos h, List.append_assoc]; rfl
      · have h : ¬ left ≥ 0 := of_decide_eq_false h
        refine wp_seq (wp_asg (by repeat' first | walk_at "ev2" | (show (0 : Int) < _; decide) | exact mulR (by decide) | exact mulR (by omega) | fail) ?_)
        have m0 : 0 ≤ (cell * 48271 + (x : Int) * 69621 + 11) % 2147483647 := Int.emod_nonneg _ (by decide)
        have m1 : (cell * 48271 + (x : Int) * 69621 + 11) % 2147483647 < 2147483647 := Int.emod_lt_of_pos _ (by decide)
        refine wp_seq (wp_asg (by repeat' first | walk_at "ev2" | (show (0 : Int) < _; decide) | exact mulL (by decide) | exact mulL (by omega) | fail) ?_)
        refine wp_app (d := .int (mixM cell x % sizes[x])) rfl (by repeat' first | walk_at "ev2" | exact at1 | exact s0 | exact divX (k := 10) (by decide) (by unfold Lt; decide) | fail) (by rw [List.length_map]; exact small1000 (by omega)) ?_
        refine ⟨ps ++ [mixM cell x % sizes[x]], left, .val (.int x), .val (.int ((((cell * 48271 + (x : Int) * 69621 + 11) % 2147483647) * ((cell * 48271 + (x : Int) * 69621 + 11) % 2147483647) + 16807 * (x : Int) + 5) % 998244353)), ?_, hk2, by rw [List.length_append, hp]; rfl, ?_⟩
        · rw [List.map_append]; rfl
        · rw [← inv, partsM, if_neg h, if_neg h, List.append_assoc]; rfl
    · rintro δ ⟨ps, left, z, w, rfl, hk, hp, inv⟩
      rw [List.length_range] at hp inv
      rw [List.drop_length, partsM, List.append_nil] at inv
      refine wp_retOwn rfl ?_
      show _ = _
      rw [inv]
def R_isInt (ds : List D) (d : D) : Prop := ∃ i : Int, ds = [.int i] ∧ d = .bool true

theorem partsM_len (cell : Int) : ∀ (ss : List Int) (k : Nat) (left : Int), (partsM cell ss k left).length = ss.length
  | [], _, _ => rfl
  | s :: ss, k, left => by rw [partsM, List.length_cons, List.length_cons, partsM_len cell ss]
theorem partsM_get (cell : Int) : ∀ (ss : List Int) (k : Nat) (left : Int) (i : Nat) (s : Int), ss[i]? = some s → 0 < s → 0 ≤ (partsM cell ss k left).getD i 0 ∧ (partsM cell ss k left).getD i 0 < s
  | [], _, _, i, s, h, _ => by cases h
  | t :: ss, k, left, 0, s, h, hs => by
    have h : t = s := Option.some.inj h
    subst h
    rw [partsM, List.getD_cons_zero]
    split
    · exact ⟨Int.emod_nonneg _ (by omega), Int.emod_lt_of_pos _ hs⟩
    · exact ⟨Int.emod_nonneg _ (by omega), Int.emod_lt_of_pos _ hs⟩
  | t :: ss, k, left, i + 1, s, h, hs => by
    rw [partsM, List.getD_cons_succ]
    exact partsM_get cell ss _ _ i s h hs
theorem parts_len (cell : Int) (ss : List Int) : (partsOf cell ss).length = ss.length := partsM_len _ _ _ _
theorem parts_get {cell : Int} {ss : List Int} (i : Nat) {s : Int} (h : ss[i]? = some s) (hs : 0 < s) : 0 ≤ (partsOf cell ss).getD i 0 ∧ (partsOf cell ss).getD i 0 < s := partsM_get _ _ _ _ i s h hs
theorem sizes_ok {ss : List Int} (h : ∀ s ∈ ss, 0 < s ∧ s < 2 ^ 200) : ∀ s ∈ ss, 0 < s ∧ Lt 8000 s := fun s hs => by
  obtain ⟨a, b⟩ := h s hs
  refine ⟨a, Lt.mono (a := 200) ?_⟩
  have : (2 : Int) ^ 200 = ((2 ^ 200 : Nat) : Int) := by decide
  unfold Lt
  omega

/-! ### the law's nets -/
theorem at_intN {Q : List Int} {i : Nat} (h : i < Q.length) : itemD (.list (Q.map PyData.int)) (i : Int) = some (.int (Q.getD i 0)) := by
  refine atI_map (k := i) ?_
  rw [List.getD_eq_getElem?_getD, List.getElem?_eq_getElem h]; rfl
def cutG {α : Type} (xs : List α) (lo hi : Option Int) : List α := (xs.drop (HT.sIx xs.length 0 lo)).take (HT.sIx xs.length xs.length hi - HT.sIx xs.length 0 lo)
theorem cutG_map {α : Type} {xs : List α} {g : α → D} {lo hi : Option Int} : cutD (xs.map g) lo hi = (cutG xs lo hi).map g := by
  unfold cutD cutG
  rw [List.length_map, List.map_take, List.map_drop]
theorem cutG_from {α : Type} {xs : List α} {t : Nat} (h : t ≤ xs.length) : cutG xs (some (t : Int)) none = xs.drop t := by
  unfold cutG
  rw [HT.sIx_nat, HT.sIx_none, Nat.min_eq_left h]
  exact List.take_of_length_le (by rw [List.length_drop]; omega)
theorem cutG_to {α : Type} {xs : List α} {t : Nat} (h : t ≤ xs.length) : cutG xs none (some (t : Int)) = xs.take t := by
  unfold cutG
  rw [HT.sIx_nat, HT.sIx_none, Nat.min_eq_left h]
  rfl
theorem cutG_mem {α : Type} {xs : List α} {lo hi : Option Int} {x : α} (h : x ∈ cutG xs lo hi) : x ∈ xs := List.mem_of_mem_drop (List.mem_of_mem_take h)
theorem cutG_len {α : Type} {xs : List α} {lo hi : Option Int} : (cutG xs lo hi).length ≤ xs.length := by
  unfold cutG
  rw [List.length_take, List.length_drop]
  omega
structure NetOk (n : Nat) (pairs : List Peb.Pr) : Prop where
  lt : ∀ p ∈ pairs, p.1 < p.2 ∧ p.2 < n
  nd : pairs.Nodup
  len : pairs.length ≤ 66
theorem NetOk.ok {n : Nat} {pairs : List Peb.Pr} (h : NetOk n pairs) : PrOk n pairs := fun p hp => by
  obtain ⟨a, b⟩ := h.lt p hp
  exact ⟨by omega, b, by omega⟩
def Pre_Net (ds : List D) : Prop := ∃ (ns : List Int) (least most : Nat), ds = [.list (ns.map PyData.int), natD least, natD most] ∧ 1 ≤ least ∧ least ≤ most ∧ most ≤ 12
def Post_Net (ds : List D) (d : D) : Prop := ∀ (ns : List Int) (least most : Nat), ds = [.list (ns.map PyData.int), natD least, natD most] → ∃ (n : Nat) (pairs : List Peb.Pr), d = .tuple [natD n, .tuple (pairs.map prD)] ∧ least ≤ n ∧ n ≤ most ∧ NetOk n pairs
def tri (n i : Nat) : Nat := i * (2 * n - i - 1) / 2
theorem tri_zero {n : Nat} : tri n 0 = 0 := by
  unfold tri
  rw [Nat.zero_mul]
theorem tri_ok : ∀ n, n < 13 → ∀ i, i < n → tri n i + (n - i - 1) = tri n (i + 1) ∧ tri n (i + 1) ≤ 66 := by decide +kernel
/-- what the drawing has found before (i, j) -/
structure Drawn (n i j at_ : Nat) (ps : List Peb.Pr) : Prop where
  lt : ∀ p ∈ ps, p.1 < p.2 ∧ p.2 < n ∧ (p.1 < i ∨ (p.1 = i ∧ p.2 < j))
  nd : ps.Nodup
  len : ps.length ≤ at_
theorem natD_inj {a b : Nat} (h : natD a = natD b) : a = b := by
  have : (a : Int) = b := by injection h
  omega
theorem ok_u_law_net (T : Txt K mg) (B : Lams T base w) : FnOk P w K mg base CX0 2 T.f_u_law_net T.fd_u_law_net ["script", "least", "most"] (spP K Pre_Net Post_Net) := by
  refine ok_wpP T.F_u_law_net sc_u_law_net ?_ (fun cdv hcv A outer s H E hr => ⟨_, (pss_cons (ps_set (i := 3) sc_u_law_net.nd rfl (by first | exact Or.inl rfl | exact Or.inr rfl) (pe_call (ok_u_law_parts T B) (hr.mono (by decide)) (by rfl) T.g_u_law_parts T.F_u_law_parts.kp T.b_u_law_parts .nil pass0 (pa_cons (pe_call (ok_u_law_cell T B) (hr.mono (by decide)) (by rfl) T.g_u_law_cell T.F_u_law_cell.kp T.b_u_law_cell .nil pass0 (pa_cons (pv 0) (pa_cons pe_int pa_nil))) (pa_cons (pe_lst (pa_cons (pe_op op_add (pe_op op_sub (pv 2) (pv 1)) pe_int) (pa_cons pe_int (pa_cons pe_int (pa_cons pe_int pa_nil))))) pa_nil))))
      (pss_cons (ps_set (i := 4) sc_u_law_net.nd rfl (by first | exact Or.inl rfl | exact Or.inr rfl) (pe_op op_add (pv 1) (pe_ix (kx_ix (K := K)) (pv 3) pe_int (fun _ _ => rfl))))
      (pss_cons (ps_set (i := 5) sc_u_law_net.nd rfl (by first | exact Or.inl rfl | exact Or.inr rfl) (pe_call (ok_u_law_parts T B) (hr.mono (by decide)) (by rfl) T.g_u_law_parts T.F_u_law_parts.kp T.b_u_law_parts .nil pass0 (pa_cons (pe_call (ok_u_law_cell T B) (hr.mono (by decide)) (by rfl) T.g_u_law_cell T.F_u_law_cell.kp T.b_u_law_cell .nil pass0 (pa_cons (pv 0) (pa_cons pe_int pa_nil))) (pa_cons (pe_op op_rep (pe_lst (pa_cons pe_int pa_nil)) pe_int) pa_nil))))
      (pss_cons (ps_set (i := 6) sc_u_law_net.nd rfl (by first | exact Or.inl rfl | exact Or.inr rfl) (pe_lst pa_nil))
      (pss_cons (ps_set (i := 7) sc_u_law_net.nd rfl (by first | exact Or.inl rfl | exact Or.inr rfl) pe_int)
      (pss_cons (ps_for PassesOwn.never rfl (pi_range1 (by rfl) T.z_range (pa_cons (pv 4) pa_nil)) (pg_name (i := 8) sc_u_law_net.nd rfl (by first | exact Or.inl rfl | exact Or.inr rfl))
      (pss_one (ps_for PassesOwn.never rfl (pi_range2 (by rfl) T.z_range (pa_cons (pe_op op_add (pv 8) pe_int) (pa_cons (pv 4) pa_nil))) (pg_name (i := 9) sc_u_law_net.nd rfl (by first | exact Or.inl rfl | exact Or.inr rfl))
      (pss_cons (ps_if (pt_cmpR op_gt (pe_ix (kx_ix (K := K)) (pv 5) (pv 7) (fun _ _ => rfl)) (pe_ix (kx_ix (K := K)) (pv 3) pe_int (fun _ _ => rfl)) (nomark _)) (pss_one (ps_expr (pe_bm PySem.F.plainAttrs_list PySem.F.slot_list_append PySem.F.type_list_append mt_append (pv 6) (pa_cons (pe_tup (pa_cons (pv 8) (pa_cons (pv 9) pa_nil))) pa_nil)))) pss_nil)
      (pss_one (ps_set (i := 7) sc_u_law_net.nd rfl (by first | exact Or.inl rfl | exact Or.inr rfl) (pe_op op_add (pv 7) pe_int)))))))
      (pss_cons (ps_set (i := 10) sc_u_law_net.nd rfl (by first | exact Or.inl rfl | exact Or.inr rfl) (pe_op op_mod (pe_callTy cr_intQ (by rfl) T.z_int (by decide +kernel) (pa_cons (pe_ix (kx_ix (K := K)) (pv 3) pe_int (fun _ _ => rfl)) pa_nil)) (pe_callB (cr_max2 rfl) (by rfl) T.z_max (by decide +kernel) (pa_cons pe_int (pa_cons (pe_callB (kx_len (K := K)) (by rfl) T.z_len (by decide +kernel) (pa_cons (pv 6) pa_nil)) pa_nil)))))
      (pss_cons (ps_set (i := 6) sc_u_law_net.nd rfl (by first | exact Or.inl rfl | exact Or.inr rfl) (pe_op (kx_catA (K := K)) (pe_slice (kx_slB (K := K)) (pv 6) (po_some (pv 10)) po_none) (pe_slice (kx_slB (K := K)) (pv 6) po_none (po_some (pv 10)))))
      (pss_cons (ps_if (pt_cmpR (kx_eq (K := K) hr.units) (pe_ix (kx_ix (K := K)) (pv 3) pe_int (fun _ _ => rfl)) pe_int (nomark _)) (pss_one (ps_expr (pe_bm0 PySem.F.plainAttrs_list PySem.F.slot_list_reverse PySem.F.type_list_reverse mt_reverse (pv 6)))) pss_nil)
      (pss_one (ps_ret (pe_tup (pa_cons (pv 4) (pa_cons (pe_callTy (kx_tuple (K := K)) (by rfl) T.z_tuple (by decide +kernel) (pa_cons (pv 6) pa_nil)) pa_nil)))))))))))))), ?_⟩)
  all_goals (try simp only [nox_K, blk_K, cx_K])
  · rintro ds ⟨ns, least, most, rfl, _⟩; rfl
  · rintro ds ⟨ns, least, most, rfl, l1, lm, hm⟩ 
    have fin : ∀ (n : Nat) (pairs : List Peb.Pr), least ≤ n → n ≤ most → NetOk n pairs → Post_Net [.list (ns.map PyData.int), natD least, natD most] (.tuple [natD n, .tuple (pairs.map prD)]) := fun n pairs h1 h2 h3 ns' l' m' e => by
      injection e with _ e
      injection e with e1 e
      injection e with e2 _
      rw [← natD_inj e1, ← natD_inj e2]
      exact ⟨n, pairs, rfl, h1, h2, h3⟩
    have c0 : R_cell [.list (ns.map PyData.int), .int 0] (.int (ns.getD 0 0)) := ⟨ns, 0, rfl, rfl⟩
    have c1 : R_cell [.list (ns.map PyData.int), .int 1] (.int (ns.getD 1 0)) := ⟨ns, 1, rfl, rfl⟩
    have p0 : R_parts [.int (ns.getD 0 0), .list (([(most : Int) - least + 1, 4, 9, 5] : List Int).map PyData.int)] (.list ((partsOf (ns.getD 0 0) [(most : Int) - least + 1, 4, 9, 5]).map PyData.int)) := ⟨_, _, rfl, sizes_ok (fun s hs => by
      simp only [List.mem_cons, List.not_mem_nil, or_false] at hs
      rcases hs with rfl | rfl | rfl | rfl
      · constructor
        · omega
        · have : (13 : Int) < 2 ^ 200 := by decide
          omega
      all_goals decide), by show 4 ≤ 1000; decide, rfl⟩
    have l0 : (partsOf (ns.getD 0 0) [(most : Int) - least + 1, 4, 9, 5]).length = 4 := parts_len _ _
    have b0 := parts_get (cell := ns.getD 0 0) (ss := [(most : Int) - least + 1, 4, 9, 5]) 0 (s := (most : Int) - least + 1) rfl (by omega)
    have b2 := parts_get (cell := ns.getD 0 0) (ss := [(most : Int) - least + 1, 4, 9, 5]) 2 (s := 9) rfl (by decide)
    have p1 : R_parts [.int (ns.getD 1 0), .list ((List.replicate 66 (6 : Int)).map PyData.int)] (.list ((partsOf (ns.getD 1 0) (List.replicate 66 6)).map PyData.int)) := ⟨_, _, rfl, sizes_ok (by decide +kernel), by decide, rfl⟩
    have l1' : (partsOf (ns.getD 1 0) (List.replicate 66 6)).length = 66 := parts_len _ _
    generalize partsOf (ns.getD 0 0) [(most : Int) - least + 1, 4, 9, 5] = Q at *
    generalize partsOf (ns.getD 1 0) (List.replicate 66 6) = Dr at *
    have q : ∀ i : Nat, i < 4 → itemD (.list (Q.map PyData.int)) (i : Int) = some (.int (Q.getD i 0)) := fun i hi => at_intN (by omega)
    have q0 := q 0 (by decide)
    have q1 := q 1 (by decide)
    have q2 := q 2 (by decide)
    have q3 := q 3 (by decide)
    refine wp_seq (wp_asg (d := .list (Q.map PyData.int)) (ed_call (ds := [.int (ns.getD 0 0), .list (([(most : Int) - least + 1, 4, 9, 5] : List Int).map PyData.int)]) (ea_cons (by repeat' first | exact c0 | walk_at "ev2" | fail) (ea_cons (EN.ed (EN.of (ds := [.int ((most : Int) - least + 1), .int 4, .int 9, .int 5]) (by walk_at "ev") rfl)) ea_nil)) p0) ?_)
    obtain ⟨n, hn⟩ : ∃ n : Nat, (least : Int) + Q.getD 0 0 = n := ⟨((least : Int) + Q.getD 0 0).toNat, by omega⟩
    have n1 : least ≤ n := by omega
    have n2 : n ≤ most := by omega
    refine wp_seq (wp_asg (d := natD n) (ED.of (d := .int ((least : Int) + Q.getD 0 0)) (by repeat' first | exact q0 | walk_at "ev2" | fail) (by rw [hn]; rfl)) ?_)
    refine wp_seq (wp_asg (d := .list (Dr.map PyData.int)) (by repeat' first | exact c1 | exact p1 | walk_at "ev2" | (show -(2 ^ 63) ≤ _ ∧ _; decide) | fail) ?_)
    refine wp_seq (wp_asgN (en_lst ea_nil (by decide)) ?_)
    refine wp_seq (wp_asg (d := .int 0) (by walk_at "ev") ?_)
    refine wp_seq (wp_forG (xs := List.range n) (g := fun k => PyData.int (k : Nat)) (fun i δ => ∃ (ps : List Peb.Pr) (a b c : SV), δ = [.val (.list (ns.map PyData.int)), .val (natD least), .val (natD most), .val (.list (Q.map PyData.int)), .val (natD n), .val (.list (Dr.map PyData.int)), .own (.l (ps.map prD)), .val (natD (tri n i)), a, b, c] ∧ Drawn n i 0 (tri n i) ps)
      (ei_rngN (i := (n : Int)) (ed_var rfl) rfl (by omega)) ⟨[], _, _, _, (by rw [tri_zero]; rfl), ⟨fun p hp => (by cases hp), .nil, Nat.zero_le _⟩⟩ ?_ ?_)
    · rintro i x δ ex ⟨ps, a, b, c, rfl, dr⟩
      have hi : i < n := by
        have := (List.getElem?_eq_some_iff.mp ex).1
        rwa [List.length_range] at this
      have ex : x = i := by
        rw [List.getElem?_range hi] at ex
        exact (Option.some.inj ex).symm
      subst ex
      obtain ⟨t1, t2⟩ := tri_ok n (by omega) x hi
      refine wp_forG (xs := List.range (n - (x + 1))) (g := fun k => PyData.int (((x : Int) + 1) + (k : Nat))) (fun k δ => ∃ (ps : List Peb.Pr) (b c : SV), δ = [.val (.list (ns.map PyData.int)), .val (natD least), .val (natD most), .val (.list (Q.map PyData.int)), .val (natD n), .val (.list (Dr.map PyData.int)), .own (.l (ps.map prD)), .val (natD (tri n x + k)), .val (natD x), b, c] ∧ Drawn n x (x + 1 + k) (tri n x + k) ps)
        (EI.of (ei_rng2 (m := (x : Int) + 1) (n := (n : Int)) (by walk_at "ev") (ed_var rfl) (by omega)) (by
          unfold rngD
          rw [show ((n : Int) - ((x : Int) + 1)).toNat = n - (x + 1) by omega])) ⟨ps, _, _, rfl, ⟨fun p hp => ?_, dr.nd, dr.len⟩⟩ ?_ ?_
      · obtain ⟨h1, h2, h3⟩ := dr.lt p hp
        exact ⟨h1, h2, by omega⟩
      · rintro k y δ ey ⟨ps, b, c, rfl, dr⟩
        have hk : k < n - (x + 1) := by
          have := (List.getElem?_eq_some_iff.mp ey).1
          rwa [List.length_range] at this
        have ey : y = k := by
          rw [List.getElem?_range hk] at ey
          exact (Option.some.inj ey).symm
        subst ey
        have da : itemD (.list (Dr.map PyData.int)) ((tri n x + y : Nat) : Int) = some (.int (Dr.getD (tri n x + y) 0)) := at_intN (by omega)
        refine wp_seq (wp_cut (fun δ => ∃ (ps : List Peb.Pr) (c : SV), δ = [.val (.list (ns.map PyData.int)), .val (natD least), .val (natD most), .val (.list (Q.map PyData.int)), .val (natD n), .val (.list (Dr.map PyData.int)), .own (.l (ps.map prD)), .val (natD (tri n x + y)), .val (natD x), .val (.int (((x : Int) + 1) + (y : Nat))), c] ∧ Drawn n x (x + 1 + (y + 1)) (tri n x + (y + 1)) ps) (wp_if (b := decide (Dr.getD (tri n x + y) 0 > Q.getD 1 0)) (by repeat' first | exact da | exact q1 | walk_at "ev2" | fail) (fun h => ?_) (fun h => ?_)) ?_)
        · refine wp_app (d := prD (x, x + 1 + y)) rfl (ED.of (d := .tuple [.int (x : Int), .int (((x : Int) + 1) + (y : Nat))]) (by walk_at "ev") (by
            unfold prD natD
            simp only
            congr 3)) (by rw [List.length_map]; exact small1000 (by have := dr.len; omega)) ⟨ps ++ [(x, x + 1 + y)], _, by rw [List.map_append]; rfl, fun p hp => ?_, ?_, ?_⟩
          · rcases List.mem_append.mp hp with z | z
            · obtain ⟨h1, h2, h3⟩ := dr.lt p z
              exact ⟨h1, h2, by omega⟩
            · rw [List.mem_singleton.mp z]
              exact ⟨by show x < _; omega, by show _ < n; omega, .inr ⟨rfl, by show x + 1 + y < _; omega⟩⟩
          · refine List.nodup_append.mpr ⟨dr.nd, by simp, fun a ma b mb e => ?_⟩
            rw [List.mem_singleton.mp mb] at e
            subst e
            obtain ⟨h1, h2, h3⟩ := dr.lt _ ma
            simp only at h3
            omega
          · rw [List.length_append]
            have := dr.len
            show _ + 1 ≤ _
            omega
        · refine wp_next ⟨ps, _, rfl, fun p hp => ?_, dr.nd, by have := dr.len; omega⟩
          obtain ⟨h1, h2, h3⟩ := dr.lt p hp
          exact ⟨h1, h2, by omega⟩
        · rintro δ ⟨ps, c, rfl, dr⟩
          exact wp_asg (d := natD (tri n x + (y + 1))) (ED.of (d := .int (((tri n x + y : Nat) : Int) + 1)) (by walk_at "ev") (by unfold natD; congr 1)) ⟨ps, _, _, rfl, dr⟩
      · rintro δ ⟨ps, b, c, rfl, dr⟩
        rw [List.length_range] at dr ⊢
        rw [show tri n x + (n - (x + 1)) = tri n (x + 1) by omega] at dr ⊢
        refine ⟨ps, _, _, _, rfl, fun p hp => ?_, dr.nd, dr.len⟩
        obtain ⟨h1, h2, h3⟩ := dr.lt p hp
        exact ⟨h1, h2, by omega⟩
    · rintro δ ⟨ps, a, b, c, rfl, dr⟩
      rw [List.length_range] at dr ⊢
      have ok0 : NetOk n ps := ⟨fun p hp => ⟨(dr.lt p hp).1, (dr.lt p hp).2.1⟩, dr.nd, by
        have := dr.len
        obtain ⟨t1, t2⟩ := tri_ok n (by omega) (n - 1) (by omega)
        rw [show n - 1 + 1 = n by omega] at t2
        omega⟩
      generalize tri n n = T0 at *
      have mx : (1 : Int) ≤ max 1 (ps.length : Int) := by omega
      have m0 := Int.emod_nonneg (Q.getD 2 0) (show (max 1 (ps.length : Int)) ≠ 0 by omega)
      have m1 := Int.emod_lt_of_pos (Q.getD 2 0) (show 0 < (max 1 (ps.length : Int)) by omega)
      obtain ⟨tn, htn⟩ : ∃ t : Nat, Q.getD 2 0 % (max 1 (ps.length : Int)) = t := ⟨(Q.getD 2 0 % (max 1 (ps.length : Int))).toNat, by omega⟩
      have htl : tn ≤ ps.length := by omega
      refine wp_freeze 6 rfl ?_
      refine wp_seq (wp_asg (d := natD tn) (ED.of (d := .int (Q.getD 2 0 % (max 1 ((ps.map prD).length : Int)))) (by repeat' first | exact q2 | walk_at "ev2" | (show (0 : Int) < _; rw [List.length_map]; omega) | fail) (by rw [List.length_map, htn]; rfl)) ?_)
      have lps := ok0.len
      refine wp_seq (wp_asgN (ds := (ps.drop tn ++ ps.take tn).map prD) (EN.of (en_catA (ds := cutD (ps.map prD) (some (tn : Int)) none) (es := cutD (ps.map prD) none (some (tn : Int))) (by walk_at "ev") (by walk_at "ev") ?_) ?_) ?_)
      · rw [cutG_map, cutG_map, cutG_from htl, cutG_to htl, List.length_map, List.length_map, List.length_drop, List.length_take]
        exact Nat.le_of_lt (small1000 (by omega))
      · rw [cutG_map, cutG_map, cutG_from htl, cutG_to htl, List.map_append]
      have ok1 : NetOk n (ps.drop tn ++ ps.take tn) := by
        have hp : (ps.drop tn ++ ps.take tn).Perm ps := by
          have := List.perm_append_comm (l₁ := ps.drop tn) (l₂ := ps.take tn)
          rwa [List.take_append_drop] at this
        exact ⟨fun p h => ok0.lt p (hp.subset h), hp.nodup_iff.mpr ok0.nd, by rw [hp.length_eq]; exact ok0.len⟩
      generalize ps.drop tn ++ ps.take tn = rs at *
      refine wp_seq (wp_cut (fun δ => ∃ (rs : List Peb.Pr) (a b c : SV), δ = [.val (.list (ns.map PyData.int)), .val (natD least), .val (natD most), .val (.list (Q.map PyData.int)), .val (natD n), .val (.list (Dr.map PyData.int)), .own (.l (rs.map prD)), .val (natD T0), a, b, c] ∧ NetOk n rs) (wp_if (b := (Q.getD 3 0 == 0)) (by repeat' first | exact q3 | walk_at "ev2" | fail) (fun h => ?_) (fun h => ?_)) ?_)
      · refine wp_reverse rfl ⟨rs.reverse, _, _, _, by rw [← List.map_reverse]; rfl, fun p hp => ok1.lt p (List.mem_reverse.mp hp), ?_, by rw [List.length_reverse]; exact ok1.len⟩
        exact (List.reverse_perm rs).nodup_iff.mpr ok1.nd
      · exact wp_next ⟨rs, _, _, _, rfl, ok1⟩
      · rintro δ ⟨rs, a, b, c, rfl, ok2⟩
        refine wp_freeze 6 rfl ?_
        exact wp_ret (d := .tuple [natD n, .tuple (rs.map prD)]) (ed_tup (ea_cons (ed_var rfl) (ea_cons (ed_tupleOf (x := .list (rs.map prD)) (ed_var rfl) rfl) ea_nil)) (by show 2 ≤ sizeLine; decide)) (fin n rs n1 n2 ok2)

/-! steps of any kind -/
inductive Sp where
  | pair (a b : Nat)
  | two (k i j : Nat)
  | three (k i j h : Nat)
def Sp.d : Sp → D
  | .pair a b => .tuple [.str "pair", natD a, natD b]
  | .two k i j => .tuple [.str "two", natD k, natD i, natD j]
  | .three k i j h => .tuple [.str "three", natD k, natD i, natD j, natD h]
def fol (js : List Nat) (th : List Peb.Pr) : Sp → Bool
  | .pair a b => js.isEmpty && decide (a < b)
  | .two k i j => !decide (k ∈ js) && (decide (i ∈ js) && (decide (j ∈ js) && decide (i < j)))
  | .three k i j h => !decide (k ∈ js) && (decide (i ∈ js) && (decide (j ∈ js) && (decide (i < j) && (decide (h ∈ js) && (!(h == i || h == j) && decide ((i, j) ∈ th))))))
def aftJ (js : List Nat) : Sp → List Nat
  | .pair a b => [a, b]
  | .two k _ _ => js ++ [k]
  | .three k _ _ _ => js ++ [k]
def aftP (th : List Peb.Pr) : Sp → List Peb.Pr
  | .pair a b => [(a, b)]
  | .two k i j => th ++ [mm k i, mm k j]
  | .three k i j h => th.filter (fun p => !decide (p = (i, j))) ++ [mm k i, mm k j, mm k h]
def runS : List Sp → List Nat → List Peb.Pr → Option (List Nat × List Peb.Pr)
  | [], js, th => some (js, th)
  | s :: ss, js, th => if fol js th s = true then runS ss (aftJ js s) (aftP th s) else none
def finS (n : Nat) (pairs : List Peb.Pr) (js : List Nat) (th : List Peb.Pr) : Bool := decide (asc (js.map fun (k : Nat) => (k : Int)) = (List.range n).map fun (k : Nat) => (k : Int)) && th.all fun p => decide (p ∈ pairs)
def isB (n : Nat) (pairs : List Peb.Pr) (ss : List Sp) : Bool := match runS ss [] [] with
  | none => false
  | some x => finS n pairs x.1 x.2
theorem okTwo : PyData.strOk "two" = true := by decide +kernel
theorem okThree : PyData.strOk "three" = true := by decide +kernel
theorem okPair3 : PyData.strOk "pair" = true := by decide +kernel
theorem sPT : ¬ (("pair" : Str) = "two") := by decide +kernel
theorem sPH : ¬ (("pair" : Str) = "three") := by decide +kernel
theorem sTH : ¬ (("two" : Str) = "three") := by decide +kernel
theorem ix2 {x y z : D} {r : List D} : itemD (.tuple (x :: y :: z :: r)) 2 = some z := atI_nat (xs := x :: y :: z :: r) (j := 2) rfl
theorem ix4 {x y z u v : D} {r : List D} : itemD (.tuple (x :: y :: z :: u :: v :: r)) 4 = some v := atI_nat (xs := x :: y :: z :: u :: v :: r) (j := 4) rfl
/-- in a list of numbers -/
theorem ed_inN {ta tb : TE} {δ : List SV} {k : Nat} {js : List Nat} (h : ED K ta δ (natD k)) (h' : ED K tb δ (.list (natL js))) : ED K (tOp (rIn K false) ta tb) δ (.bool (decide (k ∈ js))) := ED.of (ed_in (k := (k : Int)) (ns := js.map fun (x : Nat) => (x : Int)) h h' rfl) (by rw [natL_in])
theorem et_eqS {ta tb : TE} {δ : List SV} {x y : Str} {b : Bool} (h : ED K ta δ (.str x)) (h' : ED K tb δ (.str y)) (ox : PyData.strOk x = true) (oy : PyData.strOk y = true) (e : decide (x = y) = b) : ET K (tB (tOp (rEqD K) ta tb)) δ b := ET.of (et_B (ed_eqD h h' (shp_s ox) (shp_s oy) rfl)) ((eqv_str ..).trans e)
def R_asd (ds : List D) (d : D) : Prop := ∃ i j : Nat, ds = [natD i, natD j] ∧ d = prD (mm i j)
theorem ok_ascending (T : Txt K mg) (B : Lams T base w) : FnOk P w K mg base CX0 1 T.f_ascending T.fd_ascending ["i", "j"] (spD K R_asd) := by
  refine ok_wp T.F_ascending sc_ascending ?_ (fun cdv hcv A outer s H E hr => ⟨_, (pss_one (ps_ret (pe_tup (pa_cons (pe_callB (cr_min2 rfl) (by rfl) T.z_min (by decide +kernel) (pa_cons (pv 0) (pa_cons (pv 1) pa_nil))) (pa_cons (pe_callB (cr_max2 rfl) (by rfl) T.z_max (by decide +kernel) (pa_cons (pv 0) (pa_cons (pv 1) pa_nil))) pa_nil))))), ?_⟩)
  all_goals (try simp only [nox_K, blk_K, cx_K])
  · rintro ds d ⟨i, j, rfl, _⟩; rfl
  · rintro ds d ⟨i, j, rfl, rfl⟩
    refine wp_ret (ED.of (d := .tuple [.int (min (i : Int) (j : Int)), .int (max (i : Int) (j : Int))]) (ed_tup (ea_cons (ed_min2 (ed_var rfl) (ed_var rfl)) (ea_cons (ed_max2 (ed_var rfl) (ed_var rfl)) ea_nil)) (by show 2 ≤ _; decide)) ?_) rfl
    unfold prD mm natD
    show PyData.tuple [.int (min (i : Int) j), .int (max (i : Int) j)] = .tuple [.int ((min i j : Nat) : Int), .int ((max i j : Nat) : Int)]
    congr 2
    · congr 1; omega
    · congr 2; omega
theorem in2c (k a b : Nat) : decide ((k : Int) ∈ [(a : Int), (b : Int)]) = (k == a || k == b) := by
  rw [Bool.eq_iff_iff, decide_eq_true_iff, Bool.or_eq_true, beq_iff_eq, beq_iff_eq, List.mem_cons, List.mem_singleton]
  omega
theorem fol2 {js : List Nat} {th : List Peb.Pr} {k i j : Nat} : fol js th (.two k i j) = (!decide (k ∈ js) && (decide (i ∈ js) && (decide (j ∈ js) && decide (i < j)))) := rfl
theorem fol3 {js : List Nat} {th : List Peb.Pr} {k i j h : Nat} : fol js th (.three k i j h) = (!decide (k ∈ js) && (decide (i ∈ js) && (decide (j ∈ js) && (decide (i < j) && (decide (h ∈ js) && (!(h == i || h == j) && decide ((i, j) ∈ th))))))) := rfl
def R_canf (ds : List D) (d : D) : Prop := ∃ (js : List Nat) (th : List Peb.Pr) (s : Sp), ds = [.list (natL js), .list (th.map prD), s.d] ∧ d = .bool (fol js th s)
theorem ok_can_follow (T : Txt K mg) (B : Lams T base w) : FnOk P w K mg base CX0 1 T.f_can_follow T.fd_can_follow ["joints", "there", "step"] (spD K R_canf) := by
  refine ok_wp T.F_can_follow sc_can_follow ?_ (fun cdv hcv A outer s H E hr => ⟨_, (pss_cons (ps_if (pt_cmpR (kx_ne (K := K) hr.units) (pe_kget1 (K := K) (w := w) (pe_glob (v := .ref T.a_LENGTHS) rfl T.c_LENGTHS rfl) (pe_ix (kx_ix (K := K)) (pv 2) pe_int (fun _ _ => rfl)) ⟨rfl, rfl, rfl, rfl⟩) (pe_callB (kx_len (K := K)) (by rfl) T.z_len (by decide +kernel) (pa_cons (pv 2) pa_nil)) (nomark _)) (pss_one (ps_ret pe_bl)) pss_nil)
      (pss_cons (ps_if (pt_cmpR (kx_eq (K := K) hr.units) (pe_ix (kx_ix (K := K)) (pv 2) pe_int (fun _ _ => rfl)) pe_str (nomark _)) (pss_one (ps_ret (pe_and (kpe_notT (K := K) (pv 0)) (pe_one (pe_cmpR op_lt (pe_ix (kx_ix (K := K)) (pv 2) pe_int (fun _ _ => rfl)) (pe_ix (kx_ix (K := K)) (pv 2) pe_int (fun _ _ => rfl)) (nomark _)))))) pss_nil)
      (pss_cons (ps_asg (pe_slice (kx_slB (K := K)) (pv 2) (po_some pe_int) (po_some pe_int)) (kpg_tup (K := K) (n := 3) rfl (pgs_cons (pg_name (i := 3) sc_can_follow.nd rfl (by first | exact Or.inl rfl | exact Or.inr rfl)) (pgs_cons (pg_name (i := 4) sc_can_follow.nd rfl (by first | exact Or.inl rfl | exact Or.inr rfl)) (pgs_cons (pg_name (i := 5) sc_can_follow.nd rfl (by first | exact Or.inl rfl | exact Or.inr rfl)) pgs_nil)))))
      (pss_cons (ps_if (PW.pt (pw_or (pt_cmpR (kx_in (K := K)) (pv 3) (pv 0) (by rfl)) (pw_or (pt_cmpR (kx_notin (K := K)) (pv 4) (pv 0) (by rfl)) (pw_or (pt_cmpR (kx_notin (K := K)) (pv 5) (pv 0) (by rfl)) (pw_or1 (pt_cmpR op_ge (pv 4) (pv 5) (nomark _))))))) (pss_one (ps_ret pe_bl)) pss_nil)
      (pss_cons (ps_if (pt_cmpR (kx_eq (K := K) hr.units) (pe_ix (kx_ix (K := K)) (pv 2) pe_int (fun _ _ => rfl)) pe_str (nomark _)) (pss_one (ps_ret pe_bl)) pss_nil)
      (pss_cons (ps_set (i := 6) sc_can_follow.nd rfl (by first | exact Or.inl rfl | exact Or.inr rfl) (pe_ix (kx_ix (K := K)) (pv 2) pe_int (fun _ _ => rfl)))
      (pss_one (ps_ret (pe_and (pe_cmpR (kx_in (K := K)) (pv 6) (pv 0) (by rfl)) (pe_and (pe_cmpR (kx_notin (K := K)) (pv 6) (pe_tup (pa_cons (pv 4) (pa_cons (pv 5) pa_nil))) (by rfl)) (pe_one (pe_cmpR (kx_inD (K := K) (hu65 hr)) (pe_tup (pa_cons (pv 4) (pa_cons (pv 5) pa_nil))) (pv 1) (by rfl))))))))))))), ?_⟩)
  all_goals (try simp only [nox_K, blk_K, cx_K])
  · rintro ds d ⟨js, th, s, rfl, _⟩; rfl
  · rintro ds d ⟨js, th, s, rfl, rfl⟩
    have kd := B.dl_LENGTHS
    cases s with
    | pair a b =>
      refine wp_seq (wp_if (b := false) (ET.of (et_B (ed_neD (ed_kget1 (z := "pair") (i := 3) kd (by simp) (ed_ix (x := (Sp.pair a b).d) (ed_var rfl) ed_int ix0)) (ed_len (x := (Sp.pair a b).d) (ed_var rfl) rfl) shp_i shp_i rfl)) rfl) (fun z => by cases z) fun _ => wp_next ?_)
      refine wp_seq (wp_if (b := true) (et_eqS (ed_ix (x := (Sp.pair a b).d) (ed_var rfl) ed_int ix0) ed_str okPair3 okPair3 (decide_eq_true rfl)) (fun _ => ?_) fun z => by cases z)
      refine wp_ret (ED.of (ed_andV (ed_notT (d := .list (natL js)) (b := !js.isEmpty) (ed_var rfl) ?_) fun _ => ed_rI0 (ed_ix (x := (Sp.pair a b).d) (ed_var rfl) ed_int ix1) (ed_ix (x := (Sp.pair a b).d) (ed_var rfl) ed_int ix2) (Sc.bl _)) ?_) rfl
      · cases js <;> rfl
      · show PyData.bool (!!js.isEmpty && decide ((a : Int) < (b : Int))) = .bool (js.isEmpty && decide (a < b))
        rw [Bool.not_not]
        congr 2
        rw [Bool.eq_iff_iff, decide_eq_true_iff, decide_eq_true_iff]
        omega
    | two k i j =>
      refine wp_seq (wp_if (b := false) (ET.of (et_B (ed_neD (ed_kget1 (z := "two") (i := 4) kd (by simp) (ed_ix (x := (Sp.two k i j).d) (ed_var rfl) ed_int ix0)) (ed_len (x := (Sp.two k i j).d) (ed_var rfl) rfl) shp_i shp_i rfl)) rfl) (fun z => by cases z) fun _ => wp_next ?_)
      refine wp_seq (wp_if (b := false) (et_eqS (ed_ix (x := (Sp.two k i j).d) (ed_var rfl) ed_int ix0) ed_str okTwo okPair3 (decide_eq_false fun e => sPT e.symm)) (fun z => by cases z) fun _ => wp_next ?_)
      refine wp_seq (wp_asgG (d := .tuple [natD k, natD i, natD j]) (ED.of (ed_sliceT (lo := some 1) (hi := some 4) (ED.of (d := (Sp.two k i j).d) (ed_var rfl) (by rfl)) (eo_some ed_int) (eo_some ed_int)) rfl) (gd_tup (gds_cons gd_name (gds_cons gd_name (gds_cons gd_name gds_nil))) rfl) ?_)
      refine wp_seq (wp_if (b := decide (k ∈ js) || (!decide (i ∈ js) || (!decide (j ∈ js) || decide ((i : Int) ≥ (j : Int))))) (et_or (et_B (ed_inN (ed_var rfl) (ed_var rfl))) fun _ => et_or (ET.of (et_B (ed_notin (k := (i : Int)) (ns := js.map fun (x : Nat) => (x : Int)) (ed_var rfl) (y := .list (natL js)) (ed_var rfl) rfl)) (by rw [natL_in])) fun _ => et_or (ET.of (et_B (ed_notin (k := (j : Int)) (ns := js.map fun (x : Nat) => (x : Int)) (ed_var rfl) (y := .list (natL js)) (ed_var rfl) rfl)) (by rw [natL_in])) fun _ => et_B (ed_rI0 (ed_var rfl) (ed_var rfl) (Sc.bl _))) (fun z => wp_ret ed_bl (congrArg PyData.bool ?_)) fun z => wp_next ?_)
      · show false = fol js th (.two k i j)
        rw [fol2]
        rcases Bool.or_eq_true_iff.mp z with z | z
        · rw [z]; rfl
        rcases Bool.or_eq_true_iff.mp z with z | z
        · rw [(Bool.not_eq_true' _).mp z]; simp
        rcases Bool.or_eq_true_iff.mp z with z | z
        · rw [(Bool.not_eq_true' _).mp z]; simp
        · have z := of_decide_eq_true z
          rw [decide_eq_false (show ¬ i < j by omega)]; simp
      obtain ⟨z1, z⟩ := Bool.or_eq_false_iff.mp z
      obtain ⟨z2, z⟩ := Bool.or_eq_false_iff.mp z
      obtain ⟨z3, z⟩ := Bool.or_eq_false_iff.mp z
      have z4 := of_decide_eq_false z
      have z2 : decide (i ∈ js) = true := by simpa using z2
      have z3 : decide (j ∈ js) = true := by simpa using z3
      have z5 : decide (i < j) = true := decide_eq_true (by omega)
      refine wp_seq (wp_if (b := true) (et_eqS (ed_ix (x := (Sp.two k i j).d) (ed_var rfl) ed_int ix0) ed_str okTwo okTwo (decide_eq_true rfl)) (fun _ => wp_ret ed_bl (congrArg PyData.bool ?_)) fun z => by cases z)
      show true = fol js th (.two k i j)
      rw [fol2]
      rw [z1, z2, z3, z5]; rfl
    | three k i j h =>
      refine wp_seq (wp_if (b := false) (ET.of (et_B (ed_neD (ed_kget1 (z := "three") (i := 5) kd (by simp) (ed_ix (x := (Sp.three k i j h).d) (ed_var rfl) ed_int ix0)) (ed_len (x := (Sp.three k i j h).d) (ed_var rfl) rfl) shp_i shp_i rfl)) rfl) (fun z => by cases z) fun _ => wp_next ?_)
      refine wp_seq (wp_if (b := false) (et_eqS (ed_ix (x := (Sp.three k i j h).d) (ed_var rfl) ed_int ix0) ed_str okThree okPair3 (decide_eq_false fun e => sPH e.symm)) (fun z => by cases z) fun _ => wp_next ?_)
      refine wp_seq (wp_asgG (d := .tuple [natD k, natD i, natD j]) (ED.of (ed_sliceT (lo := some 1) (hi := some 4) (ED.of (d := (Sp.three k i j h).d) (ed_var rfl) (by rfl)) (eo_some ed_int) (eo_some ed_int)) rfl) (gd_tup (gds_cons gd_name (gds_cons gd_name (gds_cons gd_name gds_nil))) rfl) ?_)
      refine wp_seq (wp_if (b := decide (k ∈ js) || (!decide (i ∈ js) || (!decide (j ∈ js) || decide ((i : Int) ≥ (j : Int))))) (et_or (et_B (ed_inN (ed_var rfl) (ed_var rfl))) fun _ => et_or (ET.of (et_B (ed_notin (k := (i : Int)) (ns := js.map fun (x : Nat) => (x : Int)) (ed_var rfl) (y := .list (natL js)) (ed_var rfl) rfl)) (by rw [natL_in])) fun _ => et_or (ET.of (et_B (ed_notin (k := (j : Int)) (ns := js.map fun (x : Nat) => (x : Int)) (ed_var rfl) (y := .list (natL js)) (ed_var rfl) rfl)) (by rw [natL_in])) fun _ => et_B (ed_rI0 (ed_var rfl) (ed_var rfl) (Sc.bl _))) (fun z => wp_ret ed_bl (congrArg PyData.bool ?_)) fun z => wp_next ?_)
      · show false = fol js th (.three k i j h)
        rw [fol3]
        rcases Bool.or_eq_true_iff.mp z with z | z
        · rw [z]; rfl
        rcases Bool.or_eq_true_iff.mp z with z | z
        · rw [(Bool.not_eq_true' _).mp z]; simp
        rcases Bool.or_eq_true_iff.mp z with z | z
        · rw [(Bool.not_eq_true' _).mp z]; simp
        · have z := of_decide_eq_true z
          rw [decide_eq_false (show ¬ i < j by omega)]; simp
      obtain ⟨z1, z⟩ := Bool.or_eq_false_iff.mp z
      obtain ⟨z2, z⟩ := Bool.or_eq_false_iff.mp z
      obtain ⟨z3, z⟩ := Bool.or_eq_false_iff.mp z
      have z4 := of_decide_eq_false z
      have z2 : decide (i ∈ js) = true := by simpa using z2
      have z3 : decide (j ∈ js) = true := by simpa using z3
      have z5 : decide (i < j) = true := decide_eq_true (by omega)
      refine wp_seq (wp_if (b := false) (et_eqS (ed_ix (x := (Sp.three k i j h).d) (ed_var rfl) ed_int ix0) ed_str okThree okTwo (decide_eq_false fun e => sTH e.symm)) (fun z => by cases z) fun _ => wp_next ?_)
      refine wp_seq (wp_asg (d := natD h) (ed_ix (x := (Sp.three k i j h).d) (ed_var rfl) ed_int ix4) ?_)
      refine wp_ret (ED.of (ed_andV (ed_inN (k := h) (js := js) (ed_var rfl) (ed_var rfl)) fun _ => ed_andV (ed_notin (k := (h : Int)) (ns := [(i : Int), (j : Int)]) (ed_var rfl) (ed_tup (ea_cons (ed_var rfl) (ea_cons (ed_var rfl) ea_nil)) (by show 2 ≤ _; decide)) rfl) fun _ => ed_inD (d := prD (i, j)) (ds := th.map prD) (ed_tup (ea_cons (ed_var rfl) (ea_cons (ed_var rfl) ea_nil)) (by show 2 ≤ _; decide)) (ed_var rfl) (Shp.shaped (n := 1) shp_pr) (Shp.shaped (n := 2) shp_prs)) ?_) rfl
      rw [prD_any, in2c]
      show _ = PyData.bool (fol js th (.three k i j h))
      rw [fol3]
      rw [z1, z2, z3, z5]; rfl
def R_aft (ds : List D) (d : D) : Prop := ∃ (js : List Nat) (th : List Peb.Pr) (s : Sp), ds = [.list (natL js), .list (th.map prD), s.d] ∧ js.length ≤ 1000 ∧ th.length ≤ 1000 ∧ d = .tuple [.list (natL (aftJ js s)), .list ((aftP th s).map prD)]
theorem ok_after (T : Txt K mg) (B : Lams T base w) : FnOk P w K mg base CX0 2 T.f_after T.fd_after ["joints", "there", "step"] (spD K R_aft) := by
  refine ok_wp T.F_after sc_after ?_ (fun cdv hcv A outer s H E hr => ⟨_, (pss_cons (ps_if (pt_cmpR (kx_eq (K := K) hr.units) (pe_ix (kx_ix (K := K)) (pv 2) pe_int (fun _ _ => rfl)) pe_str (nomark _)) (pss_one (ps_ret (pe_tup (pa_cons (pe_lst (pa_cons (pe_ix (kx_ix (K := K)) (pv 2) pe_int (fun _ _ => rfl)) (pa_cons (pe_ix (kx_ix (K := K)) (pv 2) pe_int (fun _ _ => rfl)) pa_nil))) (pa_cons (pe_lst (pa_cons (pe_tup (pa_cons (pe_ix (kx_ix (K := K)) (pv 2) pe_int (fun _ _ => rfl)) (pa_cons (pe_ix (kx_ix (K := K)) (pv 2) pe_int (fun _ _ => rfl)) pa_nil))) pa_nil)) pa_nil))))) pss_nil)
      (pss_cons (ps_asg (pe_slice (kx_slB (K := K)) (pv 2) (po_some pe_int) (po_some pe_int)) (kpg_tup (K := K) (n := 3) rfl (pgs_cons (pg_name (i := 3) sc_after.nd rfl (by first | exact Or.inl rfl | exact Or.inr rfl)) (pgs_cons (pg_name (i := 4) sc_after.nd rfl (by first | exact Or.inl rfl | exact Or.inr rfl)) (pgs_cons (pg_name (i := 5) sc_after.nd rfl (by first | exact Or.inl rfl | exact Or.inr rfl)) pgs_nil)))))
      (pss_cons (ps_if (pt_cmpR (kx_eq (K := K) hr.units) (pe_ix (kx_ix (K := K)) (pv 2) pe_int (fun _ _ => rfl)) pe_str (nomark _)) (pss_one (ps_ret (pe_tup (pa_cons (pe_op (kx_catF (K := K)) (pv 0) (pe_lst (pa_cons (pv 3) pa_nil))) (pa_cons (pe_op (kx_catF (K := K)) (pv 1) (pe_lst (pa_cons (pe_call (ok_ascending T B) (hr.mono (by decide)) (by rfl) T.g_ascending T.F_ascending.kp T.b_ascending .nil pass0 (pa_cons (pv 3) (pa_cons (pv 4) pa_nil))) (pa_cons (pe_call (ok_ascending T B) (hr.mono (by decide)) (by rfl) T.g_ascending T.F_ascending.kp T.b_ascending .nil pass0 (pa_cons (pv 3) (pa_cons (pv 5) pa_nil))) pa_nil)))) pa_nil))))) pss_nil)
      (pss_cons (ps_setLc (i := 6) (own := [("pair", 7)]) (by rfl) sc_after.nd rfl rfl (sw_true rfl rfl rfl rfl) (kpi_seq (K := K) (pv 1)) (by refine blkOk_by ?_; rfl) (fun _ _ _ _ _ => pg_name (i := 7) sc_after.nd rfl (by first | exact Or.inl rfl | exact Or.inr rfl)) (fun _ _ _ _ _ => pts_one (pt_cmpR (kx_ne (K := K) hr.units) (pv 7) (pe_tup (pa_cons (pv 4) (pa_cons (pv 5) pa_nil))) (nomark _))) (fun _ _ _ _ _ => (pv 7)))
      (pss_one (ps_ret (pe_tup (pa_cons (pe_op (kx_catF (K := K)) (pv 0) (pe_lst (pa_cons (pv 3) pa_nil))) (pa_cons (pe_op (kx_catF (K := K)) (pv 6) (pe_lst (pa_cons (pe_call (ok_ascending T B) (hr.mono (by decide)) (by rfl) T.g_ascending T.F_ascending.kp T.b_ascending .nil pass0 (pa_cons (pv 3) (pa_cons (pv 4) pa_nil))) (pa_cons (pe_call (ok_ascending T B) (hr.mono (by decide)) (by rfl) T.g_ascending T.F_ascending.kp T.b_ascending .nil pass0 (pa_cons (pv 3) (pa_cons (pv 5) pa_nil))) (pa_cons (pe_call (ok_ascending T B) (hr.mono (by decide)) (by rfl) T.g_ascending T.F_ascending.kp T.b_ascending .nil pass0 (pa_cons (pv 3) (pa_cons (pe_ix (kx_ix (K := K)) (pv 2) pe_int (fun _ _ => rfl)) pa_nil))) pa_nil))))) pa_nil))))))))), ?_⟩)
  all_goals (try simp only [nox_K, blk_K, cx_K])
  · rintro ds d ⟨js, th, s, rfl, _⟩; rfl
  · rintro ds d ⟨js, th, s, rfl, lj, lt, rfl⟩
    have asd2 : ∀ i j : Nat, R_asd [natD i, natD j] (prD (mm i j)) := fun i j => ⟨i, j, rfl, rfl⟩
    have nl : (natL js).length = js.length := natL_len
    cases s with
    | pair a b =>
      refine wp_seq (wp_if (b := true) (et_eqS (ed_ix (x := (Sp.pair a b).d) (ed_var rfl) ed_int ix0) ed_str okPair3 okPair3 (decide_eq_true rfl)) (fun _ => ?_) fun z => by cases z)
      exact wp_ret (ED.of (ed_tup (ea_cons (EN.ed (en_lst (ea_cons (ed_ix (x := (Sp.pair a b).d) (ed_var rfl) ed_int ix1) (ea_cons (ed_ix (x := (Sp.pair a b).d) (ed_var rfl) ed_int ix2) ea_nil)) (by show 2 ≤ _; decide))) (ea_cons (EN.ed (en_lst (ea_cons (ed_tup (ea_cons (ed_ix (x := (Sp.pair a b).d) (ed_var rfl) ed_int ix1) (ea_cons (ed_ix (x := (Sp.pair a b).d) (ed_var rfl) ed_int ix2) ea_nil)) (by show 2 ≤ _; decide)) ea_nil) (by show 1 ≤ _; decide))) ea_nil)) (by show 2 ≤ _; decide)) rfl) rfl
    | two k i j =>
      refine wp_seq (wp_if (b := false) (et_eqS (ed_ix (x := (Sp.two k i j).d) (ed_var rfl) ed_int ix0) ed_str okTwo okPair3 (decide_eq_false fun e => sPT e.symm)) (fun z => by cases z) fun _ => wp_next ?_)
      refine wp_seq (wp_asgG (d := .tuple [natD k, natD i, natD j]) (ED.of (ed_sliceT (lo := some 1) (hi := some 4) (ED.of (d := (Sp.two k i j).d) (ed_var rfl) (by rfl)) (eo_some ed_int) (eo_some ed_int)) rfl) (gd_tup (gds_cons gd_name (gds_cons gd_name (gds_cons gd_name gds_nil))) rfl) ?_)
      refine wp_seq (wp_if (b := true) (et_eqS (ed_ix (x := (Sp.two k i j).d) (ed_var rfl) ed_int ix0) ed_str okTwo okTwo (decide_eq_true rfl)) (fun _ => ?_) fun z => by cases z)
      refine wp_ret (ED.of (ed_tup (ea_cons (EN.ed (en_catF (ds := natL js) (es := [natD k]) (ed_var rfl) (EN.ed (en_lst (ea_cons (ed_var rfl) ea_nil) (by show 1 ≤ _; decide))) (by rw [nl]; exact sz_small (by show _ + 1 ≤ _; omega)))) (ea_cons (EN.ed (en_catF (ds := th.map prD) (es := [prD (mm k i), prD (mm k j)]) (ed_var rfl) (EN.ed (en_lst (ea_cons (ed_call (ea_cons (ed_var rfl) (ea_cons (ed_var rfl) ea_nil)) (asd2 k i)) (ea_cons (ed_call (ea_cons (ed_var rfl) (ea_cons (ed_var rfl) ea_nil)) (asd2 k j)) ea_nil)) (by show 2 ≤ _; decide))) (by rw [List.length_map]; exact sz_small (by show _ + 2 ≤ _; omega)))) ea_nil)) (by show 2 ≤ _; decide)) ?_) rfl
      show PyData.tuple [.list _, .list _] = .tuple [.list (natL (js ++ [k])), .list ((th ++ [mm k i, mm k j]).map prD)]
      rw [natL_eq, natL_eq, List.map_append, List.map_append]; rfl
    | three k i j h =>
      refine wp_seq (wp_if (b := false) (et_eqS (ed_ix (x := (Sp.three k i j h).d) (ed_var rfl) ed_int ix0) ed_str okThree okPair3 (decide_eq_false fun e => sPH e.symm)) (fun z => by cases z) fun _ => wp_next ?_)
      refine wp_seq (wp_asgG (d := .tuple [natD k, natD i, natD j]) (ED.of (ed_sliceT (lo := some 1) (hi := some 4) (ED.of (d := (Sp.three k i j h).d) (ed_var rfl) (by rfl)) (eo_some ed_int) (eo_some ed_int)) rfl) (gd_tup (gds_cons gd_name (gds_cons gd_name (gds_cons gd_name gds_nil))) rfl) ?_)
      refine wp_seq (wp_if (b := false) (et_eqS (ed_ix (x := (Sp.three k i j h).d) (ed_var rfl) ed_int ix0) ed_str okThree okTwo (decide_eq_false fun e => sTH e.symm)) (fun z => by cases z) fun _ => wp_next ?_)
      have fl := List.length_filter_le (fun p => !decide (p = (i, j))) th
      refine wp_seq (wp_asgN (ds := (th.filter fun p => !decide (p = (i, j))).map prD) (en_lcW (xs := th) (gd := prD) (p := fun p => !decide (p = (i, j))) (f := prD) (ei_seq (ed_var rfl) rfl) (sz_small (by omega)) (fun q hq => gw_name (by decide)) (fun q hq => ET.of (et_B (ed_neD (ed_var rfl) (ed_tup (ea_cons (ed_var rfl) (ea_cons (ed_var rfl) ea_nil)) (by show 2 ≤ _; decide)) (Shp.shaped (n := 1) shp_pr) (Shp.shaped (n := 1) (shp_pr (p := (i, j)))) rfl)) (by rw [show PyData.tuple [natD i, natD j] = prD (i, j) from rfl, prD_eqv])) fun q hq _ => ed_var rfl) ?_)
      refine wp_freeze 6 rfl ?_
      refine wp_ret (ED.of (ed_tup (ea_cons (EN.ed (en_catF (ds := natL js) (es := [natD k]) (ed_var rfl) (EN.ed (en_lst (ea_cons (ed_var rfl) ea_nil) (by show 1 ≤ _; decide))) (by rw [nl]; exact sz_small (by show _ + 1 ≤ _; omega)))) (ea_cons (EN.ed (en_catF (ds := (th.filter fun p => !decide (p = (i, j))).map prD) (es := [prD (mm k i), prD (mm k j), prD (mm k h)]) (ed_var rfl) (EN.ed (en_lst (ea_cons (ed_call (ea_cons (ed_var rfl) (ea_cons (ed_var rfl) ea_nil)) (asd2 k i)) (ea_cons (ed_call (ea_cons (ed_var rfl) (ea_cons (ed_var rfl) ea_nil)) (asd2 k j)) (ea_cons (ed_call (ea_cons (ed_var rfl) (ea_cons (ed_ix (x := (Sp.three k i j h).d) (ed_var rfl) ed_int ix4) ea_nil)) (asd2 k h)) ea_nil))) (by show 3 ≤ _; decide))) (by rw [List.length_map]; exact sz_small (by show _ + 3 ≤ _; omega)))) ea_nil)) (by show 2 ≤ _; decide)) ?_) rfl
      show PyData.tuple [.list _, .list _] = .tuple [.list (natL (js ++ [k])), .list ((th.filter (fun p => !decide (p = (i, j))) ++ [mm k i, mm k j, mm k h]).map prD)]
      rw [natL_eq, natL_eq, List.map_append, List.map_append]; rfl
theorem aftJ_len {js : List Nat} {s : Sp} : (aftJ js s).length ≤ js.length + 2 := by
  cases s with
  | pair a b => show 2 ≤ _; omega
  | two k i j => show (js ++ [k]).length ≤ _; rw [List.length_append]; show _ + 1 ≤ _; omega
  | three k i j h => show (js ++ [k]).length ≤ _; rw [List.length_append]; show _ + 1 ≤ _; omega
theorem aftP_len {th : List Peb.Pr} {s : Sp} : (aftP th s).length ≤ th.length + 3 := by
  cases s with
  | pair a b => show 1 ≤ _; omega
  | two k i j => show (th ++ [_, _]).length ≤ _; rw [List.length_append]; show _ + 2 ≤ _; omega
  | three k i j h =>
    show (th.filter _ ++ [_, _, _]).length ≤ _
    have := List.length_filter_le (fun p => !decide (p = (i, j))) th
    rw [List.length_append]
    show _ + 3 ≤ _
    omega
theorem runS_app : ∀ (a b : List Sp) (js : List Nat) (th : List Peb.Pr), runS (a ++ b) js th = match runS a js th with
    | none => none
    | some x => runS b x.1 x.2
  | [], b, js, th => rfl
  | s :: a, b, js, th => by
    rw [List.cons_append, runS, runS]
    split
    · exact runS_app a b _ _
    · rfl
def R_isb (ds : List D) (d : D) : Prop := ∃ (n : Nat) (pairs : List Peb.Pr) (ss : List Sp), ds = [.tuple [natD n, .tuple (pairs.map prD)], .list (ss.map Sp.d)] ∧ n ≤ 100 ∧ ss.length ≤ 100 ∧ pairs.length ≤ 1000 ∧ d = .bool (isB n pairs ss)
theorem ok_is_building (T : Txt K mg) (B : Lams T base w) : FnOk P w K mg base CX0 3 T.f_is_building T.fd_is_building ["net", "steps"] (spD K R_isb) := by
  refine ok_wp T.F_is_building sc_is_building ?_ (fun cdv hcv A outer s H E hr => ⟨_, (pss_cons (ps_asg (pv 0) (kpg_tup (K := K) (n := 2) rfl (pgs_cons (pg_name (i := 2) sc_is_building.nd rfl (by first | exact Or.inl rfl | exact Or.inr rfl)) (pgs_cons (pg_name (i := 3) sc_is_building.nd rfl (by first | exact Or.inl rfl | exact Or.inr rfl)) pgs_nil))))
      (pss_cons (ps_set (i := 4) sc_is_building.nd rfl (by first | exact Or.inl rfl | exact Or.inr rfl) (pe_lst pa_nil))
      (pss_cons (ps_set (i := 5) sc_is_building.nd rfl (by first | exact Or.inl rfl | exact Or.inr rfl) (pe_lst pa_nil))
      (pss_cons (ps_for PassesOwn.never rfl (kpi_seq (K := K) (pv 1)) (pg_name (i := 6) sc_is_building.nd rfl (by first | exact Or.inl rfl | exact Or.inr rfl))
      (pss_cons (ps_if (pt_not (pt_val (pe_call (ok_can_follow T B) (hr.mono (by decide)) (by rfl) T.g_can_follow T.F_can_follow.kp T.b_can_follow .nil pass0 (pa_cons (pv 4) (pa_cons (pv 5) (pa_cons (pv 6) pa_nil)))))) (pss_one (ps_ret pe_bl)) pss_nil)
      (pss_one (ps_asg (pe_call (ok_after T B) (hr.mono (by decide)) (by rfl) T.g_after T.F_after.kp T.b_after .nil pass0 (pa_cons (pv 4) (pa_cons (pv 5) (pa_cons (pv 6) pa_nil)))) (kpg_tup (K := K) (n := 2) rfl (pgs_cons (pg_name (i := 4) sc_is_building.nd rfl (by first | exact Or.inl rfl | exact Or.inr rfl)) (pgs_cons (pg_name (i := 5) sc_is_building.nd rfl (by first | exact Or.inl rfl | exact Or.inr rfl)) pgs_nil)))))))
      (pss_one (ps_ret (pe_and (pe_cmpR (kx_eq (K := K) hr.units) (pe_callB (kx_sortedI (K := K)) (by rfl) T.z_sorted (by decide +kernel) (pa_cons (pv 4) pa_nil)) (pe_listRg rfl (by rfl) T.z_list (prg_1 (by rfl) T.z_range (pv 2))) (nomark _)) (pe_one (pe_callB (kx_all (K := K)) (by rfl) T.z_all (by decide +kernel) (pa_cons (pe_lc (own := [("pair", 7)]) (by rfl) sc_is_building.nd (kpi_seq (K := K) (pv 5)) (by refine blkOk_by ?_; rfl) (fun _ _ _ _ _ => pg_name (i := 7) sc_is_building.nd rfl (by first | exact Or.inl rfl | exact Or.inr rfl)) (fun _ _ _ _ _ => pts_nil) (fun _ _ _ _ _ => (pe_cmpR (kx_inT (K := K) (hu65 hr)) (pv 7) (pv 3) (by rfl)))) pa_nil)))))))))), ?_⟩)
  all_goals (try simp only [nox_K, blk_K, cx_K])
  · rintro ds d ⟨n, pairs, ss, rfl, _⟩; rfl
  · rintro ds d ⟨n, pairs, ss, rfl, hn, hs, hp, rfl⟩
    refine wp_seq (wp_asgG (d := .tuple [natD n, .tuple (pairs.map prD)]) (ed_var rfl) (gd_tup (gds_cons gd_name (gds_cons gd_name gds_nil)) rfl) ?_)
    refine wp_seq (wp_asg (d := .list (natL [])) (EN.ed (en_lst ea_nil (by decide))) ?_)
    refine wp_seq (wp_asg (d := .list (([] : List Peb.Pr).map prD)) (EN.ed (en_lst ea_nil (by decide))) ?_)
    refine wp_seq (wp_forG (xs := ss) (g := Sp.d) (fun k δ => ∃ (js : List Nat) (th : List Peb.Pr) (a6 a7 : SV), δ = [.val (.tuple [natD n, .tuple (pairs.map prD)]), .val (.list (ss.map Sp.d)), .val (natD n), .val (.tuple (pairs.map prD)), .val (.list (natL js)), .val (.list (th.map prD)), a6, a7] ∧ runS (ss.take k) [] [] = some (js, th) ∧ js.length ≤ 2 * k ∧ th.length ≤ 3 * k)
      (ei_seq (ed_var rfl) rfl) ⟨[], [], _, _, rfl, rfl, Nat.le_refl _, Nat.le_refl _⟩ ?_ ?_)
    · rintro k s δ es ⟨js, th, a6, a7, rfl, run, lj, lt⟩
      have hk : k < ss.length := (List.getElem?_eq_some_iff.mp es).1
      have et : ss.take (k + 1) = ss.take k ++ [s] := by rw [List.take_add_one, es]; rfl
      have cf : R_canf [.list (natL js), .list (th.map prD), s.d] (.bool (fol js th s)) := ⟨js, th, s, rfl, rfl⟩
      have af : R_aft [.list (natL js), .list (th.map prD), s.d] (.tuple [.list (natL (aftJ js s)), .list ((aftP th s).map prD)]) := ⟨js, th, s, rfl, by omega, by omega, rfl⟩
      have ea3 : EA K (tCons (tVar 4) (tCons (tVar 5) (tCons (tVar 6) tNil))) [.val (.tuple [natD n, .tuple (pairs.map prD)]), .val (.list (ss.map Sp.d)), .val (natD n), .val (.tuple (pairs.map prD)), .val (.list (natL js)), .val (.list (th.map prD)), .val s.d, a7] [.list (natL js), .list (th.map prD), s.d] := ea_cons (ed_var rfl) (ea_cons (ed_var rfl) (ea_cons (ed_var rfl) ea_nil))
      refine wp_seq (wp_if (b := !fol js th s) (et_not (et_test (ed_call ea3 cf))) (fun h => wp_ret ed_bl ?_) fun h => wp_next ?_)
      · have h : fol js th s = false := by simpa using h
        have r2 : runS ss [] [] = none := by
          have e0 : ss = ss.take k ++ (s :: ss.drop (k + 1)) := by
            have := List.take_append_drop k ss
            rw [List.drop_eq_getElem_cons hk] at this
            rw [(List.getElem?_eq_some_iff.mp es).2] at this
            exact this.symm
          rw [e0, runS_app, run]
          show runS (s :: ss.drop (k + 1)) js th = none
          rw [runS, if_neg (by rw [h]; exact Bool.false_ne_true)]
        show PyData.bool false = .bool (isB n pairs ss)
        unfold isB
        rw [r2]
      · have h : fol js th s = true := by simpa using h
        refine wp_asgG (ed_call ea3 af) (gd_tup (gds_cons gd_name (gds_cons gd_name gds_nil)) rfl) ⟨aftJ js s, aftP th s, _, _, rfl, ?_, ?_, ?_⟩
        · rw [et, runS_app, run]
          show runS [s] js th = _
          rw [runS, if_pos h]; rfl
        · have := aftJ_len (js := js) (s := s)
          omega
        · have := aftP_len (th := th) (s := s)
          omega
    rintro δ ⟨js, th, a6, a7, rfl, run, lj, lt⟩
    rw [List.take_length] at run
    refine wp_ret (ED.of (ed_andV (ed_eqD (x := .list ((asc (js.map fun (k : Nat) => (k : Int))).map PyData.int)) (y := .list (((List.range n).map fun (k : Nat) => (k : Int)).map PyData.int)) (EN.ed (en_sortedI (ns := js.map fun (k : Nat) => (k : Int)) (ED.of (d := .list (natL js)) (ed_var rfl) ?_))) (EN.ed ?_) (Shp.shaped (n := 1) shp_ints) (Shp.shaped (n := 1) shp_ints) rfl) fun _ => ed_all (bs := th.map fun p => decide (p ∈ pairs)) (ED.of (EN.ed (en_lcA (xs := th) (gd := prD) (f := fun p => PyData.bool (decide (p ∈ pairs))) (ei_seq (ed_var rfl) rfl) (sz_small (by omega)) (fun q hq => gw_name (by decide)) fun p hp => ?_)) (by rw [List.map_map]; rfl))) ?_) rfl
    · show PyData.list (natL js) = .list ((js.map fun (k : Nat) => (k : Int)).map PyData.int)
      rfl
    · exact EN.of (en_listRg (n := (n : Int)) (ed_var rfl) (by omega) (by omega)) (by rw [Int.toNat_natCast, List.map_map]; rfl)
    · exact ED.of (ed_inT (d := prD p) (ds := pairs.map prD) (ed_var rfl) (ed_var rfl) (Shp.shaped (n := 1) shp_pr) (Shp.shaped (n := 2) (shp_tup (n := 1) (shp_map fun _ => shp_pr)))) (by rw [prD_any])
    · unfold isB
      rw [run]
      show _ = PyData.bool (finS n pairs js th)
      unfold finS
      rw [eqv_listI]
      congr 2
      rw [List.all_map]; rfl

theorem chain_inv {js0 : List Nat} {l0 : List Peb.Pr} {ss f : List Stp32} {s : Stp32} {js : List Nat} {l : List Peb.Pr} (h : Chain js0 l0 ss js l) (e : ss = f ++ [s]) : ∃ js' l', Chain js0 l0 f js' l' ∧ StepOk js' l' s ∧ js = js'.erase s.k ∧ l = undM l' s := by
  cases h with
  | nil => cases f <;> cases e
  | snoc c so =>
    obtain ⟨rfl, e2⟩ := List.append_inj' e rfl
    cases e2
    exact ⟨_, _, c, so, rfl, rfl⟩
theorem chain_nd {js0 : List Nat} {l0 : List Peb.Pr} {ss : List Stp32} {js : List Nat} {l : List Peb.Pr} (h : Chain js0 l0 ss js l) (nd : js0.Nodup) : js.Nodup := by
  induction h with
  | nil => exact nd
  | snoc _ _ ih => exact ih.erase _
theorem chain_nil {js0 : List Nat} {l0 : List Peb.Pr} {ss : List Stp32} {js : List Nat} {l : List Peb.Pr} (h : Chain js0 l0 ss js l) (e : ss = []) : js = js0 ∧ l = l0 := by
  cases h with
  | nil => exact ⟨rfl, rfl⟩
  | snoc c so => simp at e
def tagS : Stp32 → Str
  | .two _ _ _ => "two"
  | .three _ _ _ _ => "three"
def endsS : Stp32 → List Nat
  | .two _ a b => [a, b]
  | .three _ a b c => [a, b, c]
theorem stp_d (s : Stp32) : s.d = .tuple (.str (tagS s) :: natD s.k :: (endsS s).map natD) := by cases s <;> rfl
def kvL : List (Str × Int) := [("pair", 3), ("two", 4), ("three", 5)]
/-- what one turn of the law's walk is about -/
structure Turn32 (k : Nat) (jl : List Nat) (Q : List Peb.Pr) (tag : Str) (nw : Nat) (es : List Nat) (isT : Bool) : Prop where
  ok : PyData.strOk tag = true
  get : (valV (mergeK [] (kvK kvL)) (Sum.inr tag)).getD (.int 0) = .int ((es.length + 2 : Nat) : Int)
  pair : PyData.eqv (.str tag) (.str "pair") = decide (k = 0)
  thr : PyData.eqv (.str tag) (.str "three") = isT
  cut : cutD (.str tag :: natD nw :: es.map natD) (some 2) none = es.map natD
  nd : es.Nodup
  le : es.length ≤ 3
  fresh : nw ∉ jl
  first : k = 0 → ∃ a, es = [a] ∧ nw < a
  rest : k ≠ 0 → (∀ x ∈ es, x ∈ jl) ∧ ∃ a b r, es = a :: b :: r ∧ a < b
  three : isT = true → ∃ a b r, es = a :: b :: r ∧ (a, b) ∈ Q
def nextJ (k : Nat) (jl : List Nat) (nw : Nat) (es : List Nat) : List Nat := if k = 0 then jl ++ [nw] ++ [es.getD 0 0] else jl ++ [nw]
def nextQ (Q : List Peb.Pr) (nw : Nat) (es : List Nat) (isT : Bool) : List Peb.Pr := (if isT then Q.erase (es.getD 0 0, es.getD 1 0) else Q) ++ es.map (mm nw)
def LB (n : Nat) (L0 : List Peb.Pr) (ss : List Stp32) (k : Nat) (jl : List Nat) (Q : List Peb.Pr) : Prop :=
  Q.length ≤ 3 * k ∧ ((k = 0 ∧ jl = [] ∧ Q = []) ∨ ∃ (front back : List Stp32) (jsF : List Nat) (lF : List Peb.Pr), k = back.length + 1 ∧ ss = front ++ back ∧ Chain (List.range n) L0 front jsF lF ∧ jl.Nodup ∧ (∀ x, x ∈ jl ↔ x ∈ jsF) ∧ Q.Nodup ∧ ∀ p, p ∈ Q ↔ p ∈ lF)
def stepsM (ss : List Stp32) (js : List Nat) : List D := (ss.map Stp32.d ++ [pairS js]).reverse
theorem steps_0 {ss : List Stp32} {js : List Nat} : (stepsM ss js)[0]? = some (pairS js) := by
  unfold stepsM
  rw [List.reverse_append]; rfl
theorem steps_s {front back : List Stp32} {s : Stp32} {js : List Nat} : (stepsM (front ++ [s] ++ back) js)[back.length + 1]? = some s.d := by
  unfold stepsM
  rw [List.reverse_append, List.map_append, List.reverse_append, List.map_append, List.reverse_append]
  show (pairS js :: ((back.map Stp32.d).reverse ++ (s.d :: (front.map Stp32.d).reverse)))[back.length + 1]? = _
  rw [List.getElem?_cons_succ, List.getElem?_append_right (by rw [List.length_reverse, List.length_map]; exact Nat.le_refl _), List.length_reverse, List.length_map, Nat.sub_self]; rfl
theorem mm_comm {k a : Nat} {p : Peb.Pr} (h : a ≠ k) : (mm k a).1 = k ∨ (mm k a).2 = k := by
  unfold mm
  show min k a = k ∨ max k a = k
  omega
theorem mm_inj {k a b : Nat} (h : mm k a = mm k b) (ha : a ≠ k) (hb : b ≠ k) : a = b := by
  unfold mm at h
  rw [Prod.mk.injEq] at h
  omega
theorem mm_nodup {k : Nat} : ∀ {es : List Nat}, es.Nodup → (∀ x ∈ es, x ≠ k) → (es.map (mm k)).Nodup
  | [], _, _ => .nil
  | a :: es, nd, h => by
    obtain ⟨n1, n2⟩ := List.nodup_cons.mp nd
    refine List.nodup_cons.mpr ⟨fun m => ?_, mm_nodup n2 fun x mx => h x (List.mem_cons_of_mem _ mx)⟩
    obtain ⟨b, mb, e⟩ := List.mem_map.mp m
    exact n1 (mm_inj e (h b (List.mem_cons_of_mem _ mb)) (h a (List.mem_cons_self ..)) ▸ mb)
theorem turn0 {n : Nat} {L0 : List Peb.Pr} {ss : List Stp32} {js : List Nat} {l : List Peb.Pr} (ch : Chain (List.range n) L0 ss js l) (b : Hen.Bld n js l) (pw : js.Pairwise (· < ·)) (e2 : js.length = 2) :
    ∃ a c, js = [a, c] ∧ Turn32 0 [] [] "pair" a [c] false ∧ LB n L0 ss 1 (nextJ 0 [] a [c]) (nextQ [] a [c] false) := by
  obtain ⟨a, c, rfl⟩ := list2 e2
  have ac : a < c := (List.pairwise_cons.mp pw).1 c (by simp)
  have hl : l.length = 1 := by
    have := b.len
    rw [e2] at this
    omega
  obtain ⟨p, rfl⟩ : ∃ p, l = [p] := by
    match l, hl with
    | [p], _ => exact ⟨p, rfl⟩
  have up := b.up p (by simp)
  obtain ⟨m1, m2⟩ := b.mem p (by simp)
  have ep : p = mm a c := by
    obtain ⟨x, y⟩ := p
    have m1 : x = a ∨ x = c := by simpa using m1
    have m2 : y = a ∨ y = c := by simpa using m2
    have up : x < y := up
    unfold mm
    rw [Prod.mk.injEq]
    omega
  refine ⟨a, c, rfl, ⟨by decide +kernel, by rfl, by decide +kernel, by decide +kernel, rfl, by simp, by simp, by simp, fun _ => ⟨c, rfl, ac⟩, fun h => absurd rfl h, (fun h => by cases h)⟩, by show 1 ≤ 3; decide, .inr ⟨ss, [], [a, c], [p], rfl, by rw [List.append_nil], ch, ?_, ?_, ?_, ?_⟩⟩
  · show ([a, c] : List Nat).Nodup
    exact b.nd
  · intro x; exact Iff.rfl
  · show ([mm a c] : List Peb.Pr).Nodup
    simp
  · intro q
    rw [ep]; exact Iff.rfl
theorem turnS {n k : Nat} {L0 : List Peb.Pr} {ss : List Stp32} {jl : List Nat} {Q : List Peb.Pr} {js : List Nat} (lb : LB n L0 ss (k + 1) jl Q) (hk : k < ss.length) :
    ∃ (s : Stp32) (isT : Bool), (stepsM ss js)[k + 1]? = some s.d ∧ Turn32 (k + 1) jl Q (tagS s) s.k (endsS s) isT ∧ LB n L0 ss (k + 2) (nextJ (k + 1) jl s.k (endsS s)) (nextQ Q s.k (endsS s) isT) := by
  obtain ⟨ql, ⟨z, _⟩ | ⟨front, back, jsF, lF, ek, es, ch, jnd, jm, qnd, qm⟩⟩ := lb
  · cases z
  have ek : k = back.length := by omega
  subst ek
  subst es
  have hf : front ≠ [] := fun z => by
    subst z
    rw [List.nil_append] at hk
    omega
  obtain ⟨f, s, rfl⟩ : ∃ f s, front = f ++ [s] := ⟨front.dropLast, front.getLast hf, (List.dropLast_concat_getLast hf).symm⟩
  obtain ⟨js', l', ch', so, rfl, rfl⟩ := chain_inv ch rfl
  have nd' := chain_nd ch' List.nodup_range
  have jmem : ∀ x, x ∈ jl ↔ x ≠ s.k ∧ x ∈ js' := fun x => by rw [jm x, nd'.mem_erase_iff]
  have fresh : s.k ∉ jl := fun m => ((jmem _).mp m).1 rfl
  have inJ : ∀ x, x ≠ s.k → x ∈ js' → x ∈ jl := fun x h1 h2 => (jmem x).mpr ⟨h1, h2⟩
  have noK : ∀ p ∈ Q, p.1 ≠ s.k ∧ p.2 ≠ s.k := fun p mp => by
    have := (qm p).mp mp
    cases s with
    | two k a b => exact (Hen.off_mem this).2
    | three k a b c =>
      rcases List.mem_append.mp this with m | m
      · exact (Hen.off_mem m).2
      · rw [List.mem_singleton.mp m]
        exact ⟨so.2.2.1.1, so.2.2.1.2.1⟩
  have kj : s.k ∈ js' := by cases s <;> exact so.1
  have jn : ∀ x, x ∈ jl ++ [s.k] ↔ x ∈ js' := fun x => by
    rw [List.mem_append, List.mem_singleton, jmem x]
    by_cases h : x = s.k
    · subst h; exact ⟨fun _ => kj, fun _ => .inr rfl⟩
    · exact ⟨fun m => m.elim (·.2) fun e => absurd e h, fun m => .inl ⟨h, m⟩⟩
  have jnd' : (jl ++ [s.k]).Nodup := List.nodup_append.mpr ⟨jnd, by simp, fun x mx y my e => by
    rw [List.mem_singleton.mp my] at e
    subst e; exact fresh mx⟩
  have app : ∀ (R : List Peb.Pr), (∀ p ∈ R, p ∈ Q) → R.Nodup → ∀ es : List Nat, es.Nodup → (∀ x ∈ es, x ≠ s.k) → (R ++ es.map (mm s.k)).Nodup := fun R hR nR es ne he => List.nodup_append.mpr ⟨nR, mm_nodup ne he, fun p mp q mq e => by
    subst e
    obtain ⟨x, mx, rfl⟩ := List.mem_map.mp mq
    obtain ⟨h1, h2⟩ := noK _ (hR _ mp)
    exact (mm_comm (p := (0, 0)) (he x mx)).elim h1 h2⟩
  cases s with
  | two k a b =>
    obtain ⟨_, ⟨ha, hb⟩, ⟨ka, kb⟩, ab, hp⟩ := so
    have nde : ([a, b] : List Nat).Nodup := by simp [Nat.ne_of_lt ab]
    have hne : ∀ x ∈ ([a, b] : List Nat), x ≠ k := fun x mx => by
      rcases List.mem_cons.mp mx with rfl | mx
      · exact ka
      · rw [List.mem_singleton.mp mx]; exact kb
    refine ⟨.two k a b, false, steps_s, ⟨by show PyData.strOk "two" = true; decide +kernel, by rfl, ?_, by show PyData.eqv (.str "two") (.str "three") = false; decide +kernel, rfl, nde, by simp [endsS], fresh, (fun h => by cases h), fun _ => ⟨fun x mx => ?_, a, b, [], rfl, ab⟩, (fun h => by cases h)⟩, ?_, .inr ⟨f, .two k a b :: back, js', l', by rw [List.length_cons], by rw [List.append_assoc]; rfl, ch', jnd', jn, app Q (fun p mp => mp) qnd [a, b] nde hne, fun p => ?_⟩⟩
    · show PyData.eqv (.str "two") (.str "pair") = _
      rw [decide_eq_false (by omega)]; decide +kernel
    · have mx : x ∈ [a, b] := mx
      rcases List.mem_cons.mp mx with rfl | mx'
      · exact inJ _ ka ha
      · rw [List.mem_singleton.mp mx']; exact inJ _ kb hb
    · show (Q ++ [mm k a, mm k b]).length ≤ _
      rw [List.length_append]
      show Q.length + 2 ≤ _
      omega
    · show p ∈ Q ++ [mm k a, mm k b] ↔ _
      rw [List.mem_append, hp p]
      have := qm p
      have this : p ∈ Q ↔ p ∈ Hen.off k l' := this
      rw [this]
      simp
  | three k a b c =>
    obtain ⟨_, ⟨ha, hb, hc⟩, ⟨ka, kb, kc⟩, ab, ac, bc, no, hp⟩ := so
    have nde : ([a, b, c] : List Nat).Nodup := by simp [Nat.ne_of_lt ab, ac, bc]
    have hne : ∀ x ∈ ([a, b, c] : List Nat), x ≠ k := fun x mx => by
      have mx : x = a ∨ x = b ∨ x = c := by simpa using mx
      rcases mx with rfl | rfl | rfl <;> assumption
    have qa : (a, b) ∈ Q := (qm _).mpr (List.mem_append_right _ (by simp))
    refine ⟨.three k a b c, true, steps_s, ⟨by show PyData.strOk "three" = true; decide +kernel, by rfl, ?_, by show PyData.eqv (.str "three") (.str "three") = true; decide +kernel, rfl, nde, by simp [endsS], fresh, (fun h => by cases h), fun _ => ⟨fun x mx => ?_, a, b, [c], rfl, ab⟩, fun _ => ⟨a, b, [c], rfl, qa⟩⟩, ?_, .inr ⟨f, .three k a b c :: back, js', l', by rw [List.length_cons], by rw [List.append_assoc]; rfl, ch', jnd', jn, app (Q.erase (a, b)) (fun p mp => List.mem_of_mem_erase mp) (qnd.erase _) [a, b, c] nde hne, fun p => ?_⟩⟩
    · show PyData.eqv (.str "three") (.str "pair") = _
      rw [decide_eq_false (by omega)]; decide +kernel
    · have mx : x ∈ [a, b, c] := mx
      have mx : x = a ∨ x = b ∨ x = c := by simpa using mx
      rcases mx with rfl | rfl | rfl
      · exact inJ _ ka ha
      · exact inJ _ kb hb
      · exact inJ _ kc hc
    · show (Q.erase (a, b) ++ [mm k a, mm k b, mm k c]).length ≤ _
      rw [List.length_append, List.length_erase_of_mem qa]
      show Q.length - 1 + 3 ≤ _
      omega
    · show p ∈ Q.erase (a, b) ++ [mm k a, mm k b, mm k c] ↔ _
      rw [List.mem_append, hp p, qnd.mem_erase_iff]
      have this : p ∈ Q ↔ p ∈ Hen.off k l' ++ [(a, b)] := qm p
      rw [this, List.mem_append, List.mem_singleton]
      constructor
      · rintro (⟨h1, h2 | h2⟩ | h2)
        · exact .inl h2
        · exact absurd h2 h1
        · exact .inr (by simpa using h2)
      · rintro (h | h)
        · exact .inl ⟨fun e => no (e ▸ (Hen.off_mem h).1), .inl h⟩
        · exact .inr (by simpa using h)

/-! the law's own judgement of steps -/
theorem okPair : PyData.strOk "pair" = true := by decide +kernel
theorem erase_ix {l : List Peb.Pr} {c : Peb.Pr} (h : c ∈ l) : ∃ z, l[z]? = some c ∧ (∀ m : Nat, m < z → l[m]? ≠ some c) ∧ l.eraseIdx z = l.erase c := by
  induction l with
  | nil => cases h
  | cons x l ih =>
    by_cases e : x = c
    · subst e
      exact ⟨0, rfl, fun m hm => absurd hm (by omega), by rw [List.erase_cons_head]; rfl⟩
    · obtain ⟨z, h1, h2, h3⟩ := ih ((List.mem_cons.mp h).resolve_left fun q => e q.symm)
      refine ⟨z + 1, h1, fun m hm => ?_, by rw [List.eraseIdx_cons_succ, h3, List.erase_cons_tail (by simpa using e)]⟩
      cases m with
      | zero => exact fun q => e (Option.some.inj q)
      | succ m => exact h2 m (by omega)
theorem map_eraseIdx {α β : Type} {f : α → β} : ∀ {l : List α} {j : Nat}, (l.map f).eraseIdx j = (l.eraseIdx j).map f
  | [], _ => rfl
  | _ :: _, 0 => rfl
  | a :: l, j + 1 => congrArg (f a :: ·) map_eraseIdx
def Sp.tag : Sp → Str
  | .pair _ _ => "pair"
  | .two _ _ _ => "two"
  | .three _ _ _ _ => "three"
def Sp.nw : Sp → Nat
  | .pair a _ => a
  | .two k _ _ => k
  | .three k _ _ _ => k
def Sp.es : Sp → List Nat
  | .pair _ b => [b]
  | .two _ i j => [i, j]
  | .three _ i j h => [i, j, h]
def Sp.isT : Sp → Bool
  | .three _ _ _ _ => true
  | _ => false
theorem sp_d (s : Sp) : s.d = .tuple (.str s.tag :: natD s.nw :: s.es.map natD) := by cases s <;> rfl
structure Gd33 (ss : List Sp) (k : Nat) (jl : List Nat) (Q : List Peb.Pr) : Prop where
  run : runS (ss.take k) [] [] = some (jl, Q)
  ze : k = 0 ↔ jl = []
  nd : Q.Nodup
  on : ∀ p ∈ Q, p.1 ∈ jl ∧ p.2 ∈ jl
  lj : jl.length ≤ 2 * k
  lq : Q.length ≤ 3 * k
theorem fol2_iff {js : List Nat} {th : List Peb.Pr} {k i j : Nat} : fol js th (.two k i j) = true ↔ k ∉ js ∧ i ∈ js ∧ j ∈ js ∧ i < j := by
  rw [fol2]
  simp only [Bool.and_eq_true, Bool.not_eq_true', decide_eq_true_iff, decide_eq_false_iff_not]
theorem fol3_iff {js : List Nat} {th : List Peb.Pr} {k i j h : Nat} : fol js th (.three k i j h) = true ↔ k ∉ js ∧ i ∈ js ∧ j ∈ js ∧ i < j ∧ h ∈ js ∧ (h ≠ i ∧ h ≠ j) ∧ (i, j) ∈ th := by
  rw [fol3]
  simp only [Bool.and_eq_true, Bool.not_eq_true', decide_eq_true_iff, decide_eq_false_iff_not, Bool.or_eq_false_iff, beq_eq_false_iff_ne, ne_eq]
theorem folP_iff {js : List Nat} {th : List Peb.Pr} {a b : Nat} : fol js th (.pair a b) = true ↔ js = [] ∧ a < b := by
  show (js.isEmpty && decide (a < b)) = true ↔ _
  rw [Bool.and_eq_true, List.isEmpty_iff, decide_eq_true_iff]
theorem turn33 {ss : List Sp} {k : Nat} {jl : List Nat} {Q : List Peb.Pr} {s : Sp} (g : Gd33 ss k jl Q) (h : fol jl Q s = true) : Turn32 k jl Q s.tag s.nw s.es s.isT := by
  cases s with
  | pair a b =>
    obtain ⟨h1, h2⟩ := folP_iff.mp h
    have k0 := g.ze.mpr h1
    exact ⟨okPair, rfl, by rw [eqv_str, decide_eq_true k0]; exact decide_eq_true rfl, by rw [eqv_str]; exact decide_eq_false sPH, rfl, by simp [Sp.es], by show 1 ≤ 3; omega, by rw [h1]; exact List.not_mem_nil, fun _ => ⟨b, rfl, h2⟩, fun z => absurd k0 z, fun z => by cases z⟩
  | two k' i j =>
    obtain ⟨h1, h2, h3, h4⟩ := fol2_iff.mp h
    have k0 : k ≠ 0 := fun z => by rw [g.ze.mp z] at h2; cases h2
    refine ⟨okTwo, rfl, by rw [eqv_str, decide_eq_false k0]; exact decide_eq_false fun e => sPT e.symm, by rw [eqv_str]; exact decide_eq_false sTH, rfl, ?_, by show 2 ≤ 3; omega, h1, fun z => absurd z k0, fun _ => ⟨fun x hx => ?_, i, j, [], rfl, h4⟩, fun z => by cases z⟩
    · show ([i, j] : List Nat).Nodup
      simp; omega
    · have hx : x ∈ [i, j] := hx
      simp only [List.mem_cons, List.not_mem_nil, or_false] at hx
      rcases hx with rfl | rfl <;> assumption
  | three k' i j h' =>
    obtain ⟨h1, h2, h3, h4, h5, ⟨h6, h7⟩, h8⟩ := fol3_iff.mp h
    have k0 : k ≠ 0 := fun z => by rw [g.ze.mp z] at h2; cases h2
    refine ⟨okThree, rfl, by rw [eqv_str, decide_eq_false k0]; exact decide_eq_false fun e => sPH e.symm, by rw [eqv_str]; exact decide_eq_true rfl, rfl, ?_, by show 3 ≤ 3; omega, h1, fun z => absurd z k0, fun _ => ⟨fun x hx => ?_, i, j, [h'], rfl, h4⟩, fun _ => ⟨i, j, [h'], rfl, h8⟩⟩
    · show ([i, j, h'] : List Nat).Nodup
      simp; omega
    · have hx : x ∈ [i, j, h'] := hx
      simp only [List.mem_cons, List.not_mem_nil, or_false] at hx
      rcases hx with rfl | rfl | rfl <;> assumption
theorem next33 {ss : List Sp} {k : Nat} {jl : List Nat} {Q : List Peb.Pr} {s : Sp} (g : Gd33 ss k jl Q) (h : fol jl Q s = true) (es : ss[k]? = some s) : Gd33 ss (k + 1) (nextJ k jl s.nw s.es) (nextQ Q s.nw s.es s.isT) := by
  have t := turn33 g h
  have et : ss.take (k + 1) = ss.take k ++ [s] := by rw [List.take_add_one, es]; rfl
  have ej : nextJ k jl s.nw s.es = aftJ jl s := by
    unfold nextJ
    cases s with
    | pair a b =>
      obtain ⟨h1, _⟩ := folP_iff.mp h
      rw [if_pos (g.ze.mpr h1), h1]; rfl
    | two k' i j =>
      have h2 := (fol2_iff.mp h).2.1
      rw [if_neg fun z => by rw [g.ze.mp z] at h2; cases h2]; rfl
    | three k' i j h' =>
      have h2 := (fol3_iff.mp h).2.1
      rw [if_neg fun z => by rw [g.ze.mp z] at h2; cases h2]; rfl
  have eq : nextQ Q s.nw s.es s.isT = aftP Q s := by
    unfold nextQ
    cases s with
    | pair a b =>
      obtain ⟨h1, h2⟩ := folP_iff.mp h
      have : Q = [] := by
        cases Q with
        | nil => rfl
        | cons p r =>
          have := (g.on p (List.mem_cons_self ..)).1
          rw [h1] at this; cases this
      rw [this]
      show [mm a b] = [(a, b)]
      unfold mm
      rw [Nat.min_eq_left (by omega), Nat.max_eq_right (by omega)]
    | two k' i j => rfl
    | three k' i j h' =>
      show Q.erase (i, j) ++ _ = Q.filter (fun p => !decide (p = (i, j))) ++ _
      rw [g.nd.erase_eq_filter]
      congr 1
      refine List.filter_congr fun p _ => ?_
      show (!(p == (i, j))) = !decide (p = (i, j))
      congr 1
      rw [Bool.eq_iff_iff, beq_iff_eq, decide_eq_true_iff]
  have sub : ∀ p ∈ (if s.isT then Q.erase (s.es.getD 0 0, s.es.getD 1 0) else Q), p ∈ Q := fun p hp => by
    split at hp
    · exact List.mem_of_mem_erase hp
    · exact hp
  have ndb : (if s.isT then Q.erase (s.es.getD 0 0, s.es.getD 1 0) else Q).Nodup := by
    split
    · exact g.nd.erase _
    · exact g.nd
  have lb : (if s.isT then Q.erase (s.es.getD 0 0, s.es.getD 1 0) else Q).length ≤ Q.length := by
    split
    · exact List.length_erase_le
    · exact Nat.le_refl _
  have inJ2 : ∀ x ∈ jl, x ∈ nextJ k jl s.nw s.es := fun x hx => by
    unfold nextJ
    split <;> simp [hx]
  have nwJ : s.nw ∈ nextJ k jl s.nw s.es := by
    unfold nextJ
    split <;> simp
  have esJ : ∀ x ∈ s.es, x ∈ nextJ k jl s.nw s.es := fun x hx => by
    by_cases k0 : k = 0
    · obtain ⟨a, e, _⟩ := t.first k0
      rw [e] at hx ⊢
      rw [List.mem_singleton.mp hx]
      unfold nextJ
      rw [if_pos k0]
      simp
    · exact inJ2 x ((t.rest k0).1 x hx)
  have esN : ∀ x ∈ s.es, x ≠ s.nw := fun x hx e => by
    by_cases k0 : k = 0
    · obtain ⟨a, e2, l⟩ := t.first k0
      rw [e2] at hx
      have := List.mem_singleton.mp hx
      omega
    · exact t.fresh (e ▸ (t.rest k0).1 x hx)
  refine ⟨?_, ⟨fun z => by omega, fun z => ?_⟩, ?_, fun p hp => ?_, ?_, ?_⟩
  · rw [et, runS_app, g.run]
    show runS [s] jl Q = _
    rw [runS, if_pos h, ej, eq]; rfl
  · rw [z] at nwJ; cases nwJ
  · unfold nextQ
    refine List.nodup_append.mpr ⟨ndb, mm_nodup t.nd esN, fun a ha b hb e => ?_⟩
    subst e
    obtain ⟨x, hx, rfl⟩ := List.mem_map.mp hb
    obtain ⟨o1, o2⟩ := g.on _ (sub _ ha)
    rcases mm_comm (p := (0, 0)) (esN x hx) with z | z
    · rw [z] at o1; exact t.fresh o1
    · rw [z] at o2; exact t.fresh o2
  · unfold nextQ at hp
    rcases List.mem_append.mp hp with z | z
    · obtain ⟨o1, o2⟩ := g.on p (sub p z)
      exact ⟨inJ2 _ o1, inJ2 _ o2⟩
    · obtain ⟨x, hx, rfl⟩ := List.mem_map.mp z
      have a1 := esJ x hx
      unfold mm
      simp only
      constructor
      · rcases Nat.le_total s.nw x with l | l
        · rw [Nat.min_eq_left l]; exact nwJ
        · rw [Nat.min_eq_right l]; exact a1
      · rcases Nat.le_total s.nw x with l | l
        · rw [Nat.max_eq_right l]; exact a1
        · rw [Nat.max_eq_left l]; exact nwJ
  · have := g.lj
    rw [ej]
    have := aftJ_len (js := jl) (s := s)
    omega
  · have := g.lq
    rw [eq]
    have := aftP_len (th := Q) (s := s)
    omega

def R_lb2 (ds : List D) (d : D) : Prop := ∃ (n : Nat) (pairs : List Peb.Pr) (ss : List Sp), ds = [.tuple [natD n, .tuple (pairs.map prD)], .list (ss.map Sp.d)] ∧ n ≤ 100 ∧ ss.length ≤ 60 ∧ pairs.length ≤ 1000 ∧ d = .bool (isB n pairs ss)
theorem ok_u_law_builds (T : Txt K mg) (B : Lams T base w) : FnOk P w K mg base CX0 1 T.f_u_law_builds T.fd_u_law_builds ["net", "steps"] (spD K R_lb2) := by
  refine ok_wp T.F_u_law_builds sc_u_law_builds ?_ (fun cdv hcv A outer s H E hr => ⟨_, (pss_cons (ps_set (i := 2) sc_u_law_builds.nd rfl (by first | exact Or.inl rfl | exact Or.inr rfl) (pe_lst pa_nil))
      (pss_cons (ps_set (i := 3) sc_u_law_builds.nd rfl (by first | exact Or.inl rfl | exact Or.inr rfl) (pe_lst pa_nil))
      (pss_cons (ps_for PassesOwn.never rfl (pi_range1 (by rfl) T.z_range (pa_cons (pe_callB (kx_len (K := K)) (by rfl) T.z_len (by decide +kernel) (pa_cons (pv 1) pa_nil)) pa_nil)) (pg_name (i := 4) sc_u_law_builds.nd rfl (by first | exact Or.inl rfl | exact Or.inr rfl))
      (pss_cons (ps_set (i := 5) sc_u_law_builds.nd rfl (by first | exact Or.inl rfl | exact Or.inr rfl) (pe_ix (kx_ix (K := K)) (pv 1) (pv 4) (fun _ _ => rfl)))
      (pss_cons (ps_if (PW.pt (pw_or (pt_not (pt_val (pe_callB (kx_isi (K := K)) (by rfl) T.z_isinstance (by decide +kernel) (pa_cons (pv 5) (pa_cons (pe_bltn (v := .ty "tuple") (by rfl) T.z_tuple (by decide +kernel) rfl) pa_nil))))) (pw_or1 (pt_cmpR (kx_ne (K := K) hr.units) (pe_callB (kx_len (K := K)) (by rfl) T.z_len (by decide +kernel) (pa_cons (pv 5) pa_nil)) (pe_dget2 (hu_of hr) (pe_disp (pps_cons pe_str pe_int (pps_cons pe_str pe_int (pps_cons pe_str pe_int pps_nil))) (by rfl) (by rfl) (fun z => by cases z) (by decide)) (pe_ix (kx_ix (K := K)) (pv 5) pe_int (fun _ _ => rfl)) pe_int ⟨rfl, rfl, rfl, rfl⟩) (nomark _))))) (pss_one (ps_ret pe_bl)) pss_nil)
      (pss_cons (ps_if (pt_cmpR (kx_ne (K := K) hr.units) (pe_cmpR (kx_eq (K := K) hr.units) (pe_ix (kx_ix (K := K)) (pv 5) pe_int (fun _ _ => rfl)) pe_str (nomark _)) (pe_cmpR (kx_eq (K := K) hr.units) (pv 4) pe_int (nomark _)) (nomark _)) (pss_one (ps_ret pe_bl)) pss_nil)
      (pss_cons (ps_set (i := 6) sc_u_law_builds.nd rfl (by first | exact Or.inl rfl | exact Or.inr rfl) (pe_callTy (kx_list (K := K)) (by rfl) T.z_list (by decide +kernel) (pa_cons (pe_slice (kx_slB (K := K)) (pv 5) (po_some pe_int) po_none) pa_nil)))
      (pss_cons (ps_set (i := 7) sc_u_law_builds.nd rfl (by first | exact Or.inl rfl | exact Or.inr rfl) (pe_ix (kx_ix (K := K)) (pv 5) pe_int (fun _ _ => rfl)))
      (pss_cons (ps_if (PW.pt (pw_and (pt_cmpR (kx_ne (K := K) hr.units) (pe_ix (kx_ix (K := K)) (pv 5) pe_int (fun _ _ => rfl)) pe_str (nomark _)) (pw_and1 (PW.pt (pw_or (pt_cmpR op_gt (pe_callB (kx_len (K := K)) (by rfl) T.z_len (by decide +kernel) (pa_cons (pe_lc (own := [("end", 8)]) (by rfl) sc_u_law_builds.nd (kpi_seq (K := K) (pv 6)) (by refine blkOk_by ?_; rfl) (fun _ _ _ _ _ => pg_name (i := 8) sc_u_law_builds.nd rfl (by first | exact Or.inl rfl | exact Or.inr rfl)) (fun _ _ _ _ _ => pts_one (pt_cmpR (kx_notin (K := K)) (pv 8) (pv 2) (by rfl))) (fun _ _ _ _ _ => (pv 8))) pa_nil)) pe_int (nomark _)) (pw_or1 (pt_cmpR op_ge (pe_ix (kx_ix (K := K)) (pv 6) pe_int (fun _ _ => rfl)) (pe_ix (kx_ix (K := K)) (pv 6) pe_int (fun _ _ => rfl)) (nomark _)))))))) (pss_one (ps_ret pe_bl)) pss_nil)
      (pss_cons (ps_if (PW.pt (pw_or (pt_cmpR (kx_in (K := K)) (pv 7) (pv 2) (by rfl)) (pw_or (PW.pt (pw_and (pt_cmpR (kx_eq (K := K) hr.units) (pe_ix (kx_ix (K := K)) (pv 5) pe_int (fun _ _ => rfl)) pe_str (nomark _)) (pw_and1 (pt_cmpR op_ge (pv 7) (pe_ix (kx_ix (K := K)) (pv 6) pe_int (fun _ _ => rfl)) (nomark _))))) (pw_or1 (pt_cmpR (kx_ne (K := K) hr.units) (pe_callB (kx_lenSA (w := w)) (by rfl) T.z_len (by decide +kernel) (pa_cons (pe_callTy (kx_setA (K := K) (w := w)) (by rfl) T.z_set (by decide +kernel) (pa_cons (pv 6) pa_nil)) pa_nil)) (pe_callB (kx_len (K := K)) (by rfl) T.z_len (by decide +kernel) (pa_cons (pv 6) pa_nil)) (nomark _)))))) (pss_one (ps_ret pe_bl)) pss_nil)
      (pss_cons (ps_if (pt_cmpR (kx_eq (K := K) hr.units) (pe_ix (kx_ix (K := K)) (pv 5) pe_int (fun _ _ => rfl)) pe_str (nomark _)) (pss_cons (ps_if (pt_cmpR (kx_notinD (K := K) (hu65 hr)) (pe_tup (pa_cons (pe_ix (kx_ix (K := K)) (pv 6) pe_int (fun _ _ => rfl)) (pa_cons (pe_ix (kx_ix (K := K)) (pv 6) pe_int (fun _ _ => rfl)) pa_nil))) (pv 3) (by rfl)) (pss_one (ps_ret pe_bl)) pss_nil)
      (pss_one (ps_expr (pe_bm PySem.F.plainAttrs_list PySem.F.slot_list_remove PySem.F.type_list_remove (mt_removeD (K := K) (hu65 hr)) (pv 3) (pa_cons (pe_tup (pa_cons (pe_ix (kx_ix (K := K)) (pv 6) pe_int (fun _ _ => rfl)) (pa_cons (pe_ix (kx_ix (K := K)) (pv 6) pe_int (fun _ _ => rfl)) pa_nil))) pa_nil))))) pss_nil)
      (pss_cons (ps_expr (pe_bm PySem.F.plainAttrs_list PySem.F.slot_list_append PySem.F.type_list_append mt_append (pv 2) (pa_cons (pv 7) pa_nil)))
      (pss_cons (ps_if (pt_cmpR (kx_eq (K := K) hr.units) (pv 4) pe_int (nomark _)) (pss_one (ps_expr (pe_bm PySem.F.plainAttrs_list PySem.F.slot_list_append PySem.F.type_list_append mt_append (pv 2) (pa_cons (pe_ix (kx_ix (K := K)) (pv 6) pe_int (fun _ _ => rfl)) pa_nil)))) pss_nil)
      (pss_one (ps_set (i := 3) sc_u_law_builds.nd rfl (by first | exact Or.inl rfl | exact Or.inr rfl) (pe_op (kx_catA (K := K)) (pv 3) (pe_lc (own := [("end", 8)]) (by rfl) sc_u_law_builds.nd (kpi_seq (K := K) (pv 6)) (by refine blkOk_by ?_; rfl) (fun _ _ _ _ _ => pg_name (i := 8) sc_u_law_builds.nd rfl (by first | exact Or.inl rfl | exact Or.inr rfl)) (fun _ _ _ _ _ => pts_nil) (fun _ _ _ _ _ => (pe_tup (pa_cons (pe_callB (kx_min (K := K)) (by rfl) T.z_min (by decide +kernel) (pa_cons (pe_lst (pa_cons (pv 7) (pa_cons (pv 8) pa_nil))) pa_nil)) (pa_cons (pe_callB (kx_max (K := K)) (by rfl) T.z_max (by decide +kernel) (pa_cons (pe_lst (pa_cons (pv 7) (pa_cons (pv 8) pa_nil))) pa_nil)) pa_nil)))))))))))))))))))
      (pss_cons (ps_if (pt_cmpR (kx_ne (K := K) hr.units) (pe_callB (kx_sortedI (K := K)) (by rfl) T.z_sorted (by decide +kernel) (pa_cons (pv 2) pa_nil)) (pe_listRg rfl (by rfl) T.z_list (prg_1 (by rfl) T.z_range (pe_ix (kx_ix (K := K)) (pv 0) pe_int (fun _ _ => rfl)))) (nomark _)) (pss_one (ps_ret pe_bl)) pss_nil)
      (pss_one (ps_ret (pe_cmpR (kx_eq (K := K) hr.units) (pe_callB (kx_len (K := K)) (by rfl) T.z_len (by decide +kernel) (pa_cons (pe_lc (own := [("pair", 9)]) (by rfl) sc_u_law_builds.nd (kpi_seq (K := K) (pv 3)) (by refine blkOk_by ?_; rfl) (fun _ _ _ _ _ => pg_name (i := 9) sc_u_law_builds.nd rfl (by first | exact Or.inl rfl | exact Or.inr rfl)) (fun _ _ _ _ _ => pts_one (pt_cmpR (kx_notinT (K := K) (hu65 hr)) (pv 9) (pe_ix (kx_ix (K := K)) (pv 0) pe_int (fun _ _ => rfl)) (by rfl))) (fun _ _ _ _ _ => (pv 9))) pa_nil)) pe_int (nomark _)))))))), ?_⟩)
  all_goals (try simp only [nox_K, blk_K, cx_K])
  · rintro ds d ⟨n, pairs, ss, rfl, _⟩; rfl
  · rintro ds d ⟨n, pairs, ss, rfl, hn, hs, hp, rfl⟩
    refine wp_seq (wp_asgN (ds := natL []) (en_lst ea_nil (by decide)) ?_)
    refine wp_seq (wp_asgN (ds := ([] : List Peb.Pr).map prD) (en_lst ea_nil (by decide)) ?_)
    refine wp_seq (wp_forG (xs := List.range (ss.map Sp.d).length) (g := fun k => PyData.int (k : Nat)) (fun k δ => ∃ (jl : List Nat) (Q : List Peb.Pr) (a4 a5 a6 a7 a8 a9 : SV), δ = [.val (.tuple [natD n, .tuple (pairs.map prD)]), .val (.list (ss.map Sp.d)), .own (.l (natL jl)), .own (.l (Q.map prD)), a4, a5, a6, a7, a8, a9] ∧ Gd33 ss k jl Q)
      (ei_rngN (i := ((ss.map Sp.d).length : Nat)) (ed_len (ed_var rfl) rfl) rfl (by rw [List.length_map]; omega)) ⟨[], [], _, _, _, _, _, _, rfl, ⟨rfl, ⟨fun _ => rfl, fun _ => rfl⟩, .nil, fun p m => (by cases m), Nat.zero_le _, Nat.zero_le _⟩⟩ ?_ ?_)
    · rintro k x δ ex ⟨jl, Q, a4, a5, a6, a7, a8, a9, rfl, g⟩
      have hk : k < (ss.map Sp.d).length := by
        have := (List.getElem?_eq_some_iff.mp ex).1
        rwa [List.length_range] at this
      rw [List.getElem?_range hk] at ex
      cases ex
      rw [List.length_map] at hk
      obtain ⟨s, esk⟩ : ∃ s, ss[k]? = some s := ⟨_, List.getElem?_eq_getElem hk⟩
      have jlen := g.lj
      have lq := g.lq
      have stp : (ss.map Sp.d)[k]? = some s.d := by rw [List.getElem?_map, esk]; rfl
      by_cases hf : fol jl Q s = true
      · have t := turn33 g hf
        have lb' := next33 g hf esk
        have hst : (ss.map Sp.d)[k]? = some (.tuple (.str s.tag :: natD s.nw :: s.es.map natD)) := by rw [stp, sp_d]
        generalize s.tag = tag at *
        generalize s.nw = nw at *
        generalize s.es = es at *
        generalize s.isT = isT at *
        have esl := t.le
        -- step = steps[at]
        refine wp_seq (wp_asg (d := .tuple (.str tag :: natD nw :: es.map natD)) (ed_ix (ed_var rfl) (ed_var rfl) (atI_nat hst)) ?_)
        refine wp_seq (wp_if (b := false) (ET.of (et_or (et_not (et_test (ed_isi (b := true) (ed_var rfl) rfl))) fun _ => et_B (ed_neD (ed_len (ed_var rfl) rfl) (ed_dispGet (kv := kvL) (ed_ix (ed_var rfl) ed_int ix0) (by decide) t.get) shp_i shp_i rfl)) ?_) (fun z => by cases z) fun _ => wp_next ?_)
        · rw [eqv_int, List.length_cons, List.length_cons, List.length_map]
          show (!true || !(((es.length + 2 : Nat) : Int) == ((es.length + 2 : Nat) : Int))) = false
          rw [beq_self_eq_true]; rfl
        refine wp_seq (wp_if (b := false) (ET.of (et_B (ed_neD (ed_eqD (ed_ix (ed_var rfl) ed_int ix0) ed_str (shp_s t.ok) (shp_s okPair) t.pair) (ed_eqD (ed_var rfl) ed_int shp_i shp_i rfl) shp_bl shp_bl rfl)) ?_) (fun z => by cases z) fun _ => wp_next ?_)
        · rw [eqv_bool, eqv_int]
          by_cases h : k = 0
          · subst h; rfl
          · rw [decide_eq_false h]
            have : (((k : Nat) : Int) == 0) = false := beq_eq_false_iff_ne.mpr (by omega)
            rw [this]; rfl
        refine wp_seq (wp_asg (d := .list (es.map natD)) (EN.ed (en_list (ed_sliceT (ed_var rfl) (eo_some ed_int) eo_none) (by show some (cutD _ _ _) = _; rw [t.cut]))) ?_)
        refine wp_seq (wp_asg (d := natD nw) (ed_ix (ed_var rfl) ed_int ix1) ?_)
        -- the ends stand, and ascend
        refine wp_seq (wp_if (b := false) (et_thaw (i := 2) rfl (ET.of (et_and (b := false) (et_B (ed_neD (ed_ix (ed_var rfl) ed_int ix0) ed_str (shp_s t.ok) (shp_s okPair) (by rw [t.pair]))) fun h => ?_) (Bool.and_false _))) (fun z => by cases z) fun _ => wp_next ?_)
        · have k0 : k ≠ 0 := by
            intro e
            subst e
            cases h
          obtain ⟨hin, a, c, r, rfl, ac⟩ := t.rest k0
          refine ET.of (et_or (a := false) (b := false) (ET.of (et_B (ed_rI0 (ed_len (ED.of (EN.ed (en_lcW (xs := a :: c :: r) (gd := natD) (p := fun _ => false) (f := natD) (ei_seq (ed_var rfl) rfl) (sz_small (by omega)) (fun p hp => gw_name (by decide)) (fun p hp => ET.of (et_B (ed_notin (k := (p : Int)) (ns := jl.map fun (x : Nat) => (x : Int)) (ed_var rfl) (ed_var rfl) rfl)) (by rw [natL_in, decide_eq_true (hin p hp)]; rfl)) fun p hp _ => ed_var rfl)) (show PyData.list (((a :: c :: r).filter fun _ => false).map natD) = .list [] by rw [List.filter_eq_nil_iff.mpr (by intro _ _ z; cases z)]; rfl)) rfl) ed_int (Sc.bl _))) (by rfl)) fun _ => ET.of (et_B (ed_rI0 (ed_ix (ed_var rfl) ed_int lx0) (ed_ix (ed_var rfl) ed_int lx1) (Sc.bl _))) (decide_eq_false (by omega))) rfl
        -- nothing stands twice
        refine wp_seq (wp_if (b := false) (et_thaw (i := 2) rfl (ET.of (et_or (a := false) (b := false) (ET.of (et_B (ed_in (k := (nw : Int)) (ns := jl.map fun (x : Nat) => (x : Int)) (ed_var rfl) (ed_var rfl) rfl)) (by rw [natL_in, decide_eq_false t.fresh])) fun _ => ET.of (et_or (a := false) (b := false) (ET.of (et_and (b := false) (et_B (ed_eqD (ed_ix (ed_var rfl) ed_int ix0) ed_str (shp_s t.ok) (shp_s okPair) t.pair)) fun h => ?_) (Bool.and_false _)) fun _ => ET.of (et_B (ed_neD (ed_lenSA (x := .list (es.map natD)) (ns := es.map fun (x : Nat) => (x : Int)) (ed_var rfl) (by rw [List.map_map]; rfl) (by rw [List.length_map]; omega)) (ed_len (ed_var rfl) rfl) shp_i shp_i rfl)) (by rw [eqv_int, ddL_len.mpr (natI_nodup t.nd), List.length_map, List.length_map]; simp)) rfl) rfl)) (fun z => by cases z) fun _ => wp_next ?_)
        · have k0 : k = 0 := of_decide_eq_true h
          obtain ⟨a, rfl, na⟩ := t.first k0
          exact ET.of (et_B (ed_rI0 (ed_var rfl) (ed_ix (ed_var rfl) ed_int lx0) (Sc.bl _))) (decide_eq_false (by omega))
        -- what is taken away
        refine wp_seq (wp_cut (fun δ' => ∃ a8 a9 : SV, δ' = [.val (.tuple [natD n, .tuple (pairs.map prD)]), .val (.list (ss.map Sp.d)), .own (.l (natL jl)), .own (.l ((if isT then Q.erase (es.getD 0 0, es.getD 1 0) else Q).map prD)), .val (.int (k : Nat)), .val (.tuple (.str tag :: natD nw :: es.map natD)), .val (.list (es.map natD)), .val (natD nw), a8, a9]) (wp_if (b := isT) (et_B (ed_eqD (ed_ix (ed_var rfl) ed_int ix0) ed_str (shp_s t.ok) (shp_s okThree) t.thr)) (fun h => ?_) fun h => ?_) ?_)
        · subst h
          obtain ⟨a, c, r, rfl, mq⟩ := t.three rfl
          refine wp_seq (wp_if (b := false) (et_thaw (i := 3) rfl (ET.of (et_B (ed_notinD (d := prD (a, c)) (ds := Q.map prD) (ed_tup (ea_cons (ed_ix (ed_var rfl) ed_int lx0) (ea_cons (ed_ix (ed_var rfl) ed_int lx1) ea_nil)) (sz_small (by simp))) (ed_var rfl) (Shp.shaped (n := 1) shp_pr) (Shp.shaped (n := 2) shp_prs))) (by rw [prD_any, decide_eq_true mq]; rfl))) (fun z => by cases z) fun _ => wp_next ?_)
          obtain ⟨j, hj, hno, ej⟩ := erase_ix mq
          refine wp_removeD (j := j) (d := prD (a, c)) (z := prD (a, c)) rfl (ed_tup (ea_cons (ed_ix (ed_var rfl) ed_int lx0) (ea_cons (ed_ix (ed_var rfl) ed_int lx1) ea_nil)) (sz_small (by simp))) (Shp.shaped (n := 2) shp_prs) (Shp.shaped (n := 1) shp_pr) (by rw [List.getElem?_map, hj]; rfl) (by rw [prD_eqv, decide_eq_true rfl]) (fun m z' hm hz => ?_) ?_
          · rw [List.getElem?_map] at hz
            cases hq : Q[m]? with
            | none => rw [hq] at hz; cases hz
            | some q =>
              rw [hq] at hz
              cases hz
              rw [prD_eqv, decide_eq_false_iff_not]
              intro e
              exact hno m hm (by rw [hq, e])
          · exact ⟨_, _, by rw [map_eraseIdx, ej]; rfl⟩
        · subst h
          exact wp_next ⟨_, _, rfl⟩
        rintro δ ⟨a8, a9, rfl⟩
        refine wp_seq (wp_app (d := natD nw) rfl (ed_var rfl) (by rw [natL_len]; exact small1000 (by omega)) ?_)
        refine wp_seq (wp_cut (fun δ' => δ' = [.val (.tuple [natD n, .tuple (pairs.map prD)]), .val (.list (ss.map Sp.d)), .own (.l (natL (nextJ k jl nw es))), .own (.l ((if isT then Q.erase (es.getD 0 0, es.getD 1 0) else Q).map prD)), .val (.int (k : Nat)), .val (.tuple (.str tag :: natD nw :: es.map natD)), .val (.list (es.map natD)), .val (natD nw), a8, a9]) (wp_if (b := decide (k = 0)) (ET.of (et_B (ed_eqD (ed_var rfl) ed_int shp_i shp_i rfl)) ?_) (fun h => ?_) fun h => ?_) ?_)
        · rw [eqv_int, Bool.eq_iff_iff, beq_iff_eq, decide_eq_true_iff]
          omega
        · have k0 : k = 0 := of_decide_eq_true h
          obtain ⟨a, rfl, na⟩ := t.first k0
          refine wp_app (d := natD a) rfl (ed_ix (ed_var rfl) ed_int lx0) (by rw [List.length_append, natL_len]; exact small1000 (by show jl.length + 1 ≤ _; omega)) ?_
          unfold nextJ
          rw [if_pos k0, natL_app, natL_app]; rfl
        · have k0 : k ≠ 0 := of_decide_eq_false h
          refine wp_next ?_
          unfold nextJ
          rw [if_neg k0, natL_app]; rfl
        rintro δ rfl
        refine wp_asgN (ds := (nextQ Q nw es isT).map prD) (EN.of (en_catOV (i := 3) rfl (en_lcA (xs := es) (gd := natD) (f := fun x => prD (mm nw x)) (ei_seq (ed_var rfl) rfl) (sz_small (by omega)) (fun p hp => gw_name (by decide)) fun p hp => ED.of (ed_tup (ea_cons (ed_minL (EN.ed (en_lst (ea_cons (ed_var rfl) (ea_cons (ed_var rfl) ea_nil)) (sz_small (by simp))))) (ea_cons (ed_maxL (EN.ed (en_lst (ea_cons (ed_var rfl) (ea_cons (ed_var rfl) ea_nil)) (sz_small (by simp))))) ea_nil)) (sz_small (by simp))) ?_) ?_) ?_) ?_
        · have h1 : min (nw : Int) (p : Int) = ((min nw p : Nat) : Int) := by omega
          have h2 : max (nw : Int) (p : Int) = ((max nw p : Nat) : Int) := by omega
          rw [h1, h2]; rfl
        · have hq : (if isT then Q.erase (es.getD 0 0, es.getD 1 0) else Q).length ≤ Q.length := by
            split
            · exact List.length_erase_le
            · exact Nat.le_refl _
          have : (100000 : Nat) ≤ sizeLine := by decide
          rw [List.length_map, List.length_map]; omega
        · unfold nextQ
          rw [List.map_append, List.map_map]; rfl
        · exact ⟨_, _, _, _, _, _, _, _, rfl, lb'⟩
      · have hf : fol jl Q s = false := by simpa using hf
        have no : PyData.bool false = .bool (isB n pairs ss) := by
          have e0 : ss = ss.take k ++ (s :: ss.drop (k + 1)) := by
            have := List.take_append_drop k ss
            rw [List.drop_eq_getElem_cons hk, (List.getElem?_eq_some_iff.mp esk).2] at this
            exact this.symm
          have r2 : runS ss [] [] = none := by
            rw [e0, runS_app, g.run]
            show runS (s :: ss.drop (k + 1)) jl Q = none
            rw [runS, if_neg (by rw [hf]; exact Bool.false_ne_true)]
          unfold isB
          rw [r2]
        cases s with
        | pair a b =>
          refine wp_seq (wp_asg (d := (Sp.pair a b).d) (ed_ix (x := .list (ss.map Sp.d)) (ed_var rfl) (ed_var rfl) (atI_nat stp)) ?_)
          refine wp_seq (wp_if (b := false) (ET.of (et_or (et_not (et_test (ed_isi (b := true) (d := (Sp.pair a b).d) (ed_var rfl) rfl))) fun _ => et_B (ed_neD (ed_len (x := (Sp.pair a b).d) (ed_var rfl) rfl) (ed_dispGet (kv := kvL) (r := 3) (ed_ix (x := (Sp.pair a b).d) (ed_var rfl) ed_int ix0) (by decide) rfl) shp_i shp_i rfl)) rfl) (fun z => by cases z) fun _ => wp_next ?_)
          refine wp_seq (wp_if (b := !decide (k = 0)) (ET.of (et_B (ed_neD (ed_eqD (ed_ix (x := (Sp.pair a b).d) (ed_var rfl) ed_int ix0) ed_str (shp_s okPair) (shp_s okPair) ((eqv_str ..).trans (decide_eq_true rfl))) (ed_eqD (ed_var rfl) ed_int shp_i shp_i rfl) shp_bl shp_bl rfl)) ?_) (fun _ => wp_ret ed_bl no) fun kz => wp_next ?_)
          · rw [eqv_bool, eqv_int]
            by_cases h : k = 0
            · subst h; rfl
            · rw [decide_eq_false h]
              have : (((k : Nat) : Int) == 0) = false := beq_eq_false_iff_ne.mpr (by omega)
              rw [this]; rfl
          refine wp_seq (wp_asg (d := .list [natD b]) (EN.ed (en_list (x := .tuple [natD b]) (ED.of (ed_sliceT (lo := some 2) (hi := none) (ED.of (d := (Sp.pair a b).d) (ed_var rfl) (by rfl)) (eo_some ed_int) eo_none) rfl) rfl)) ?_)
          refine wp_seq (wp_asg (d := natD a) (ed_ix (x := (Sp.pair a b).d) (ed_var rfl) ed_int ix1) ?_)
          have k0 : k = 0 := by
            have : decide (k = 0) = true := by simpa using kz
            exact of_decide_eq_true this
          have jz := g.ze.mp k0
          subst jz
          have ab : ¬ a < b := fun z => by
            rw [folP_iff.mpr ⟨rfl, z⟩] at hf
            cases hf
          refine wp_seq (wp_if (b := false) (et_and (a := false) (b := false) (et_B (ed_neD (ed_ix (x := (Sp.pair a b).d) (ed_var rfl) ed_int ix0) ed_str (shp_s okPair) (shp_s okPair) (by rw [eqv_str, decide_eq_true rfl]; rfl))) fun z => by cases z) (fun z => by cases z) fun _ => wp_next ?_)
          exact wp_seq (wp_if (b := true) (et_thaw (i := 2) rfl (et_or (a := false) (b := true) (ET.of (et_B (ed_in (k := (a : Int)) (ns := ([] : List Nat).map fun (x : Nat) => (x : Int)) (ed_var rfl) (ed_var rfl) rfl)) (by rw [natL_in]; exact decide_eq_false List.not_mem_nil)) fun _ => et_or (a := true) (b := true) (et_and (a := true) (b := true) (et_B (ed_eqD (ed_ix (x := (Sp.pair a b).d) (ed_var rfl) ed_int ix0) ed_str (shp_s okPair) (shp_s okPair) ((eqv_str ..).trans (decide_eq_true rfl)))) fun _ => ET.of (et_B (ed_rI0 (ed_var rfl) (ed_ix (x := .list [natD b]) (ed_var rfl) ed_int lx0) (Sc.bl _))) (decide_eq_true (by omega))) fun z => by cases z)) (fun _ => wp_ret ed_bl no) fun z => by cases z)
        | two k' i j =>
          refine wp_seq (wp_asg (d := (Sp.two k' i j).d) (ed_ix (x := .list (ss.map Sp.d)) (ed_var rfl) (ed_var rfl) (atI_nat stp)) ?_)
          refine wp_seq (wp_if (b := false) (ET.of (et_or (et_not (et_test (ed_isi (b := true) (d := (Sp.two k' i j).d) (ed_var rfl) rfl))) fun _ => et_B (ed_neD (ed_len (x := (Sp.two k' i j).d) (ed_var rfl) rfl) (ed_dispGet (kv := kvL) (r := 4) (ed_ix (x := (Sp.two k' i j).d) (ed_var rfl) ed_int ix0) (by decide) rfl) shp_i shp_i rfl)) rfl) (fun z => by cases z) fun _ => wp_next ?_)
          refine wp_seq (wp_if (b := decide (k = 0)) (ET.of (et_B (ed_neD (ed_eqD (ed_ix (x := (Sp.two k' i j).d) (ed_var rfl) ed_int ix0) ed_str (shp_s okTwo) (shp_s okPair) ((eqv_str ..).trans (decide_eq_false (fun e => sPT e.symm)))) (ed_eqD (ed_var rfl) ed_int shp_i shp_i rfl) shp_bl shp_bl rfl)) ?_) (fun _ => wp_ret ed_bl no) fun kz => wp_next ?_)
          · rw [eqv_bool, eqv_int]
            by_cases h : k = 0
            · subst h; rfl
            · rw [decide_eq_false h]
              have : (((k : Nat) : Int) == 0) = false := beq_eq_false_iff_ne.mpr (by omega)
              rw [this]; rfl
          refine wp_seq (wp_asg (d := .list [natD i, natD j]) (EN.ed (en_list (x := .tuple [natD i, natD j]) (ED.of (ed_sliceT (lo := some 2) (hi := none) (ED.of (d := (Sp.two k' i j).d) (ed_var rfl) (by rfl)) (eo_some ed_int) eo_none) rfl) rfl)) ?_)
          refine wp_seq (wp_asg (d := natD k') (ed_ix (x := (Sp.two k' i j).d) (ed_var rfl) ed_int ix1) ?_)
          have k0 : k ≠ 0 := of_decide_eq_false kz
          refine wp_seq (wp_if (b := decide (((([i, j] : List Nat).filter fun x => !decide (x ∈ jl)).map natD).length > (0 : Int)) || decide ((i : Int) ≥ (j : Int))) (et_thaw (i := 2) rfl (ET.of (et_and (a := true) (et_B (ed_neD (ed_ix (x := (Sp.two k' i j).d) (ed_var rfl) ed_int ix0) ed_str (shp_s okTwo) (shp_s okPair) (by rw [eqv_str, decide_eq_false (fun e => sPT e.symm)]; rfl))) fun _ => et_or (et_B (ed_rI0 (ed_len (x := .list ((([i, j] : List Nat).filter fun x => !decide (x ∈ jl)).map natD)) (EN.ed (en_lcW (xs := ([i, j] : List Nat)) (gd := natD) (p := fun x => !decide (x ∈ jl)) (f := natD) (ei_seq (ed_var rfl) rfl) (sz_small (by simp)) (fun p hp => gw_name (by decide)) (fun p hp => ET.of (et_B (ed_notin (k := (p : Int)) (ns := jl.map fun (x : Nat) => (x : Int)) (ed_var rfl) (ed_var rfl) rfl)) (by rw [natL_in])) fun p hp _ => ed_var rfl)) rfl) ed_int (Sc.bl _))) fun _ => et_B (ed_rI0 (ed_ix (x := .list [natD i, natD j]) (ed_var rfl) ed_int lx0) (ed_ix (x := .list [natD i, natD j]) (ed_var rfl) ed_int lx1) (Sc.bl _))) (Bool.true_and _))) (fun _ => wp_ret ed_bl no) fun z => wp_next ?_)
          obtain ⟨z1, z2⟩ := Bool.or_eq_false_iff.mp z
          have z1 := of_decide_eq_false z1
          have z2 := of_decide_eq_false z2
          rw [List.length_map] at z1
          have all : ∀ x ∈ ([i, j] : List Nat), x ∈ jl := fun x hx => Classical.byContradiction fun nx => by
            have : 0 < (([i, j] : List Nat).filter fun x => !decide (x ∈ jl)).length := List.length_pos_of_mem (List.mem_filter.mpr ⟨hx, by rw [decide_eq_false nx]; rfl⟩)
            omega
          refine wp_seq (wp_if (b := decide (k' ∈ jl) || !(((ddL (([i, j] : List Nat).map fun (x : Nat) => (x : Int))).length : Int) == ((([i, j] : List Nat).map natD).length : Int))) (et_thaw (i := 2) rfl (et_or (ET.of (et_B (ed_in (k := (k' : Int)) (ns := jl.map fun (x : Nat) => (x : Int)) (ed_var rfl) (ed_var rfl) rfl)) (by rw [natL_in])) fun _ => ET.of (et_or (a := false) (et_and (a := false) (b := false) (et_B (ed_eqD (ed_ix (x := (Sp.two k' i j).d) (ed_var rfl) ed_int ix0) ed_str (shp_s okTwo) (shp_s okPair) ((eqv_str ..).trans (decide_eq_false (fun e => sPT e.symm))))) fun z => by cases z) fun _ => et_B (ed_neD (ed_lenSA (x := .list [natD i, natD j]) (ns := ([i, j] : List Nat).map fun (x : Nat) => (x : Int)) (ed_var rfl) rfl (by show _ ≤ 60; simp)) (ed_len (x := .list [natD i, natD j]) (ed_var rfl) rfl) shp_i shp_i rfl)) (Bool.false_or _))) (fun _ => wp_ret ed_bl no) fun z => wp_next ?_)
          obtain ⟨z3, z4⟩ := Bool.or_eq_false_iff.mp z
          have z3 := of_decide_eq_false z3
          rw [fol2_iff.mpr ⟨z3, all i (by simp), all j (by simp), by omega⟩] at hf
          cases hf
        | three k' i j h' =>
          refine wp_seq (wp_asg (d := (Sp.three k' i j h').d) (ed_ix (x := .list (ss.map Sp.d)) (ed_var rfl) (ed_var rfl) (atI_nat stp)) ?_)
          refine wp_seq (wp_if (b := false) (ET.of (et_or (et_not (et_test (ed_isi (b := true) (d := (Sp.three k' i j h').d) (ed_var rfl) rfl))) fun _ => et_B (ed_neD (ed_len (x := (Sp.three k' i j h').d) (ed_var rfl) rfl) (ed_dispGet (kv := kvL) (r := 5) (ed_ix (x := (Sp.three k' i j h').d) (ed_var rfl) ed_int ix0) (by decide) rfl) shp_i shp_i rfl)) rfl) (fun z => by cases z) fun _ => wp_next ?_)
          refine wp_seq (wp_if (b := decide (k = 0)) (ET.of (et_B (ed_neD (ed_eqD (ed_ix (x := (Sp.three k' i j h').d) (ed_var rfl) ed_int ix0) ed_str (shp_s okThree) (shp_s okPair) ((eqv_str ..).trans (decide_eq_false (fun e => sPH e.symm)))) (ed_eqD (ed_var rfl) ed_int shp_i shp_i rfl) shp_bl shp_bl rfl)) ?_) (fun _ => wp_ret ed_bl no) fun kz => wp_next ?_)
          · rw [eqv_bool, eqv_int]
            by_cases h : k = 0
            · subst h; rfl
            · rw [decide_eq_false h]
              have : (((k : Nat) : Int) == 0) = false := beq_eq_false_iff_ne.mpr (by omega)
              rw [this]; rfl
          refine wp_seq (wp_asg (d := .list [natD i, natD j, natD h']) (EN.ed (en_list (x := .tuple [natD i, natD j, natD h']) (ED.of (ed_sliceT (lo := some 2) (hi := none) (ED.of (d := (Sp.three k' i j h').d) (ed_var rfl) (by rfl)) (eo_some ed_int) eo_none) rfl) rfl)) ?_)
          refine wp_seq (wp_asg (d := natD k') (ed_ix (x := (Sp.three k' i j h').d) (ed_var rfl) ed_int ix1) ?_)
          have k0 : k ≠ 0 := of_decide_eq_false kz
          refine wp_seq (wp_if (b := decide (((([i, j, h'] : List Nat).filter fun x => !decide (x ∈ jl)).map natD).length > (0 : Int)) || decide ((i : Int) ≥ (j : Int))) (et_thaw (i := 2) rfl (ET.of (et_and (a := true) (et_B (ed_neD (ed_ix (x := (Sp.three k' i j h').d) (ed_var rfl) ed_int ix0) ed_str (shp_s okThree) (shp_s okPair) (by rw [eqv_str, decide_eq_false (fun e => sPH e.symm)]; rfl))) fun _ => et_or (et_B (ed_rI0 (ed_len (x := .list ((([i, j, h'] : List Nat).filter fun x => !decide (x ∈ jl)).map natD)) (EN.ed (en_lcW (xs := ([i, j, h'] : List Nat)) (gd := natD) (p := fun x => !decide (x ∈ jl)) (f := natD) (ei_seq (ed_var rfl) rfl) (sz_small (by simp)) (fun p hp => gw_name (by decide)) (fun p hp => ET.of (et_B (ed_notin (k := (p : Int)) (ns := jl.map fun (x : Nat) => (x : Int)) (ed_var rfl) (ed_var rfl) rfl)) (by rw [natL_in])) fun p hp _ => ed_var rfl)) rfl) ed_int (Sc.bl _))) fun _ => et_B (ed_rI0 (ed_ix (x := .list [natD i, natD j, natD h']) (ed_var rfl) ed_int lx0) (ed_ix (x := .list [natD i, natD j, natD h']) (ed_var rfl) ed_int lx1) (Sc.bl _))) (Bool.true_and _))) (fun _ => wp_ret ed_bl no) fun z => wp_next ?_)
          obtain ⟨z1, z2⟩ := Bool.or_eq_false_iff.mp z
          have z1 := of_decide_eq_false z1
          have z2 := of_decide_eq_false z2
          rw [List.length_map] at z1
          have all : ∀ x ∈ ([i, j, h'] : List Nat), x ∈ jl := fun x hx => Classical.byContradiction fun nx => by
            have : 0 < (([i, j, h'] : List Nat).filter fun x => !decide (x ∈ jl)).length := List.length_pos_of_mem (List.mem_filter.mpr ⟨hx, by rw [decide_eq_false nx]; rfl⟩)
            omega
          refine wp_seq (wp_if (b := decide (k' ∈ jl) || !(((ddL (([i, j, h'] : List Nat).map fun (x : Nat) => (x : Int))).length : Int) == ((([i, j, h'] : List Nat).map natD).length : Int))) (et_thaw (i := 2) rfl (et_or (ET.of (et_B (ed_in (k := (k' : Int)) (ns := jl.map fun (x : Nat) => (x : Int)) (ed_var rfl) (ed_var rfl) rfl)) (by rw [natL_in])) fun _ => ET.of (et_or (a := false) (et_and (a := false) (b := false) (et_B (ed_eqD (ed_ix (x := (Sp.three k' i j h').d) (ed_var rfl) ed_int ix0) ed_str (shp_s okThree) (shp_s okPair) ((eqv_str ..).trans (decide_eq_false (fun e => sPH e.symm))))) fun z => by cases z) fun _ => et_B (ed_neD (ed_lenSA (x := .list [natD i, natD j, natD h']) (ns := ([i, j, h'] : List Nat).map fun (x : Nat) => (x : Int)) (ed_var rfl) rfl (by show _ ≤ 60; simp)) (ed_len (x := .list [natD i, natD j, natD h']) (ed_var rfl) rfl) shp_i shp_i rfl)) (Bool.false_or _))) (fun _ => wp_ret ed_bl no) fun z => wp_next ?_)
          obtain ⟨z3, z4⟩ := Bool.or_eq_false_iff.mp z
          have z3 := of_decide_eq_false z3
          have nd3 : (([i, j, h'] : List Nat).map fun (x : Nat) => (x : Int)).Nodup := by
            refine ddL_len.mp ?_
            have : (((ddL (([i, j, h'] : List Nat).map fun (x : Nat) => (x : Int))).length : Int) == ((([i, j, h'] : List Nat).map natD).length : Int)) = true := by simpa using z4
            have := eq_of_beq this
            rw [List.length_map] at this ⊢
            omega
          have hij : h' ≠ i ∧ h' ≠ j := by
            simp at nd3
            omega
          have nq : (i, j) ∉ Q := fun m => by
            rw [fol3_iff.mpr ⟨z3, all i (by simp), all j (by simp), by omega, all h' (by simp), hij, m⟩] at hf
            cases hf
          refine wp_seq (wp_if (b := true) (et_B (ed_eqD (ed_ix (x := (Sp.three k' i j h').d) (ed_var rfl) ed_int ix0) ed_str (shp_s okThree) (shp_s okThree) ((eqv_str ..).trans (decide_eq_true rfl)))) (fun _ => ?_) fun z => by cases z)
          exact wp_seq (wp_if (b := true) (et_thaw (i := 3) rfl (ET.of (et_B (ed_notinD (d := prD (i, j)) (ds := Q.map prD) (ed_tup (ea_cons (ed_ix (x := .list [natD i, natD j, natD h']) (ed_var rfl) ed_int lx0) (ea_cons (ed_ix (x := .list [natD i, natD j, natD h']) (ed_var rfl) ed_int lx1) ea_nil)) (by show 2 ≤ _; decide)) (ed_var rfl) (Shp.shaped (n := 1) shp_pr) (Shp.shaped (n := 2) shp_prs))) (by rw [prD_any, decide_eq_false nq]; rfl))) (fun _ => wp_ret ed_bl no) fun z => by cases z)
    · rintro δ ⟨jl, Q, a4, a5, a6, a7, a8, a9, rfl, g⟩
      rw [List.length_range, List.length_map] at g
      have run := g.run
      rw [List.take_length] at run
      have lq := g.lq
      have eB : isB n pairs ss = finS n pairs jl Q := by
        unfold isB
        rw [run]
      refine wp_freeze 2 rfl ?_
      refine wp_freeze 3 rfl ?_
      refine wp_seq (wp_if (b := !decide (asc (jl.map fun (x : Nat) => (x : Int)) = (List.range n).map fun (x : Nat) => (x : Int))) (ET.of (et_B (ed_neD (x := .list ((asc (jl.map fun (x : Nat) => (x : Int))).map PyData.int)) (y := .list (((List.range n).map fun (x : Nat) => (x : Int)).map PyData.int)) (EN.ed (en_sortedI (ns := jl.map fun (x : Nat) => (x : Int)) (ed_var rfl))) (EN.ed (EN.of (en_listRg (n := (n : Int)) (ed_ix (x := .tuple [natD n, .tuple (pairs.map prD)]) (ed_var rfl) ed_int ix0) (by omega) (by omega)) (by rw [Int.toNat_natCast, List.map_map]; rfl))) (Shp.shaped (n := 1) shp_ints) (Shp.shaped (n := 1) shp_ints) rfl)) (by rw [eqv_listI])) (fun h => wp_ret ed_bl ?_) fun h => wp_next ?_)
      · rw [eB]
        unfold finS
        rw [(Bool.not_eq_true' _).mp h]; rfl
      · have h : decide (asc (jl.map fun (x : Nat) => (x : Int)) = (List.range n).map fun (x : Nat) => (x : Int)) = true := by simpa using h
        refine wp_ret (ED.of (ed_eqD (ed_len (x := .list ((Q.filter fun p => !decide (p ∈ pairs)).map prD)) (EN.ed (en_lcW (xs := Q) (gd := prD) (p := fun p => !decide (p ∈ pairs)) (f := prD) (ei_seq (ed_var rfl) rfl) (sz_small (by omega)) (fun p hp => gw_name (by decide)) (fun p hp => ET.of (et_B (ed_notinT (d := prD p) (ds := pairs.map prD) (ed_var rfl) (ed_ix (x := .tuple [natD n, .tuple (pairs.map prD)]) (ed_var rfl) ed_int ix1) (Shp.shaped (n := 1) shp_pr) (Shp.shaped (n := 2) (shp_tup (shp_map fun _ => shp_pr))))) (by rw [prD_any])) fun p hp _ => ed_var rfl)) rfl) ed_int shp_i shp_i rfl) ?_) rfl
        rw [eB, eqv_int, List.length_map]
        unfold finS
        rw [h, Bool.true_and]
        congr 1
        rw [Bool.eq_iff_iff, beq_iff_eq, List.all_eq_true]
        constructor
        · intro z p mp
          refine Classical.byContradiction fun np => ?_
          have np : p ∉ pairs := by simpa using np
          have : 0 < (Q.filter fun p => !decide (p ∈ pairs)).length := List.length_pos_of_mem (List.mem_filter.mpr ⟨mp, by rw [decide_eq_false np]; rfl⟩)
          omega
        · intro z
          rw [List.filter_eq_nil_iff.mpr fun p mp => by rw [z p mp]; exact Bool.false_ne_true]
          rfl

/-! steps that are spoilt -/
def stD (L : List Sp) : D := .list (L.map Sp.d)
structure SpG where
  ss : List Sp
  Q : List Int
  n : Nat
def Pre_Spo (g : SpG) (ds : List D) : Prop := ds = [.list (g.ss.map Sp.d), .list (g.Q.map PyData.int), natD g.n] ∧ 0 < g.ss.length ∧ g.ss.length ≤ 10 ∧ 3 ≤ g.Q.length ∧ 1 ≤ g.n ∧ g.n ≤ 10
def FnL (L : List Sp) : Prop := L.length ≤ 40
def Sp.it (s : Sp) : List D := .str s.tag :: natD s.nw :: s.es.map natD
def chgF (s : Sp) (w v : Nat) : Sp := match s with
  | .pair a b => if w = 1 then .pair v b else .pair a v
  | .two k i j => if w = 1 then .two v i j else if w = 2 then .two k v j else .two k i v
  | .three k i j h => if w = 1 then .three v i j h else if w = 2 then .three k v j h else if w = 3 then .three k i v h else .three k i j v
def swpF : Sp → Sp
  | .pair a b => .pair b a
  | .two k i j => .two i k j
  | .three k i j h => .three i k j h
def tailS (a b : List Sp) (u : Nat) : Sp → List (List Sp)
  | .pair _ _ => []
  | .two k i j => [(a ++ [Sp.two k j i]) ++ b, (a ++ [Sp.three k i j u]) ++ b]
  | .three k i j _ => [(a ++ [Sp.two k i j]) ++ b, (a ++ [Sp.three k i j j]) ++ b]
def spoE (ss : List Sp) (t : Nat) (s sc : Sp) (u : Nat) : List (List Sp) := (([(cutG ss none (some (t : Int))) ++ (cutG ss (some ((t : Int) + 1)) none), ss ++ [s], ((cutG ss none (some (t : Int))) ++ [s]) ++ (cutG ss (some (t : Int)) none)] : List (List Sp)) ++ (if t + 1 < ss.length then [((cutG ss none (some (t : Int))) ++ [ss.getD (t + 1) (.pair 0 0), s]) ++ (cutG ss (some ((t : Int) + 2)) none)] else [])) ++ [((cutG ss none (some (t : Int))) ++ [sc]) ++ (cutG ss (some ((t : Int) + 1)) none)] ++ [((cutG ss none (some (t : Int))) ++ [swpF s]) ++ (cutG ss (some ((t : Int) + 1)) none)] ++ tailS (cutG ss none (some (t : Int))) (cutG ss (some ((t : Int) + 1)) none) u s
def spoM (g : SpG) : List (List Sp) := spoE g.ss (g.Q.getD 0 0 % (g.ss.length : Int)).toNat (g.ss.getD (g.Q.getD 0 0 % (g.ss.length : Int)).toNat (.pair 0 0)) (chgF (g.ss.getD (g.Q.getD 0 0 % (g.ss.length : Int)).toNat (.pair 0 0)) (1 + (g.Q.getD 1 0 % (((g.ss.getD (g.Q.getD 0 0 % (g.ss.length : Int)).toNat (.pair 0 0)).it.length - 1 : Nat) : Int)).toNat) (g.Q.getD 2 0 % ((g.n + 1 : Nat) : Int)).toNat) (g.Q.getD 2 0 % (g.n : Int)).toNat
def Post_Spo (g : SpG) (d : D) : Prop := ∃ Ls : List (List Sp), d = .list (Ls.map stD) ∧ Ls.length ≤ 20 ∧ (∀ L ∈ Ls, FnL L) ∧ Ls = spoM g
theorem sp_it (s : Sp) : s.d = .tuple s.it := sp_d s
theorem it_len (s : Sp) : 3 ≤ s.it.length ∧ s.it.length ≤ 5 := by
  cases s <;> (show 3 ≤ _ ∧ _ ≤ 5; simp [Sp.it, Sp.es])
/-- an item after the first is another number -/
theorem chg (s : Sp) {w : Nat} (h1 : 1 ≤ w) (h2 : w < s.it.length) (v : Nat) : cutD s.it none (some (w : Int)) ≠ [] ∧ (cutD s.it none (some (w : Int)) ++ [natD v] ++ cutD s.it (some ((w : Int) + 1)) none).length ≤ 5 ∧ PyData.tuple (cutD s.it none (some (w : Int)) ++ [natD v] ++ cutD s.it (some ((w : Int) + 1)) none) = (chgF s w v).d := by
  cases s with
  | pair a b =>
    have h2 : w < 3 := h2
    have : w = 1 ∨ w = 2 := by omega
    rcases this with rfl | rfl
    · exact ⟨(fun z => nomatch z), Nat.le_of_ble_eq_true rfl, rfl⟩
    · exact ⟨(fun z => nomatch z), Nat.le_of_ble_eq_true rfl, rfl⟩
  | two k i j =>
    have h2 : w < 4 := h2
    have : w = 1 ∨ w = 2 ∨ w = 3 := by omega
    rcases this with rfl | rfl | rfl
    · exact ⟨(fun z => nomatch z), Nat.le_of_ble_eq_true rfl, rfl⟩
    · exact ⟨(fun z => nomatch z), Nat.le_of_ble_eq_true rfl, rfl⟩
    · exact ⟨(fun z => nomatch z), Nat.le_of_ble_eq_true rfl, rfl⟩
  | three k i j h =>
    have h2 : w < 5 := h2
    have : w = 1 ∨ w = 2 ∨ w = 3 ∨ w = 4 := by omega
    rcases this with rfl | rfl | rfl | rfl
    · exact ⟨(fun z => nomatch z), Nat.le_of_ble_eq_true rfl, rfl⟩
    · exact ⟨(fun z => nomatch z), Nat.le_of_ble_eq_true rfl, rfl⟩
    · exact ⟨(fun z => nomatch z), Nat.le_of_ble_eq_true rfl, rfl⟩
    · exact ⟨(fun z => nomatch z), Nat.le_of_ble_eq_true rfl, rfl⟩
theorem ix3 {x y z u : D} {r : List D} : itemD (.tuple (x :: y :: z :: u :: r)) 3 = some u := atI_nat (xs := x :: y :: z :: u :: r) (j := 3) rfl
theorem swp (s : Sp) : ∃ (x y z : D), itemD s.d 0 = some x ∧ itemD s.d 2 = some y ∧ itemD s.d 1 = some z ∧ PyData.tuple ([x, y, z] ++ cutD s.it (some 3) none) = (swpF s).d ∧ (cutD s.it (some 3) none).length ≤ 2 := by
  cases s with
  | pair a b => exact ⟨_, _, _, ix0, ix2, ix1, rfl, Nat.le_of_ble_eq_true rfl⟩
  | two k i j => exact ⟨_, _, _, ix0, ix2, ix1, rfl, Nat.le_of_ble_eq_true rfl⟩
  | three k i j h => exact ⟨_, _, _, ix0, ix2, ix1, rfl, Nat.le_of_ble_eq_true rfl⟩
theorem mod_nat {a : Int} {m : Nat} (h : 0 < m) : ∃ t : Nat, (t : Int) = a % (m : Int) ∧ t < m := by
  have h1 := Int.emod_nonneg a (show (m : Int) ≠ 0 by omega)
  have h2 := Int.emod_lt_of_pos a (show 0 < (m : Int) by omega)
  exact ⟨(a % (m : Int)).toNat, Int.toNat_of_nonneg h1, by omega⟩
theorem ok_u_law_spoilt (T : Txt K mg) (B : Lams T base w) : FnOk P w K mg base CX0 1 T.f_u_law_spoilt T.fd_u_law_spoilt ["steps", "parts", "n"] (spG K Pre_Spo Post_Spo) := by
  refine ok_wpG T.F_u_law_spoilt sc_u_law_spoilt ?_ (fun cdv hcv A outer s H E hr => ⟨_, (pss_cons (ps_set (i := 3) sc_u_law_spoilt.nd rfl (by first | exact Or.inl rfl | exact Or.inr rfl) (pe_op op_mod (pe_callTy cr_intQ (by rfl) T.z_int (by decide +kernel) (pa_cons (pe_ix (kx_ix (K := K)) (pv 1) pe_int (fun _ _ => rfl)) pa_nil)) (pe_callB (kx_len (K := K)) (by rfl) T.z_len (by decide +kernel) (pa_cons (pv 0) pa_nil))))
      (pss_cons (ps_set (i := 4) sc_u_law_spoilt.nd rfl (by first | exact Or.inl rfl | exact Or.inr rfl) (pe_ix (kx_ix (K := K)) (pv 0) (pv 3) (fun _ _ => rfl)))
      (pss_cons (ps_set (i := 5) sc_u_law_spoilt.nd rfl (by first | exact Or.inl rfl | exact Or.inr rfl) (pe_lst (pa_cons (pe_op (kx_catA (K := K)) (pe_slice (kx_slB (K := K)) (pv 0) po_none (po_some (pv 3))) (pe_slice (kx_slB (K := K)) (pv 0) (po_some (pe_op op_add (pv 3) pe_int)) po_none)) (pa_cons (pe_op (kx_catF (K := K)) (pv 0) (pe_lst (pa_cons (pv 4) pa_nil))) (pa_cons (pe_op (kx_catA (K := K)) (pe_op (kx_catA (K := K)) (pe_slice (kx_slB (K := K)) (pv 0) po_none (po_some (pv 3))) (pe_lst (pa_cons (pv 4) pa_nil))) (pe_slice (kx_slB (K := K)) (pv 0) (po_some (pv 3)) po_none)) pa_nil)))))
      (pss_cons (ps_if (pt_cmpR op_lt (pe_op op_add (pv 3) pe_int) (pe_callB (kx_len (K := K)) (by rfl) T.z_len (by decide +kernel) (pa_cons (pv 0) pa_nil)) (nomark _)) (pss_one (ps_expr (pe_bm PySem.F.plainAttrs_list PySem.F.slot_list_append PySem.F.type_list_append mt_append (pv 5) (pa_cons (pe_op (kx_catA (K := K)) (pe_op (kx_catA (K := K)) (pe_slice (kx_slB (K := K)) (pv 0) po_none (po_some (pv 3))) (pe_lst (pa_cons (pe_ix (kx_ix (K := K)) (pv 0) (pe_op op_add (pv 3) pe_int) (fun _ _ => rfl)) (pa_cons (pv 4) pa_nil)))) (pe_slice (kx_slB (K := K)) (pv 0) (po_some (pe_op op_add (pv 3) pe_int)) po_none)) pa_nil)))) pss_nil)
      (pss_cons (ps_set (i := 6) sc_u_law_spoilt.nd rfl (by first | exact Or.inl rfl | exact Or.inr rfl) (pe_op op_add pe_int (pe_op op_mod (pe_callTy cr_intQ (by rfl) T.z_int (by decide +kernel) (pa_cons (pe_ix (kx_ix (K := K)) (pv 1) pe_int (fun _ _ => rfl)) pa_nil)) (pe_op op_sub (pe_callB (kx_len (K := K)) (by rfl) T.z_len (by decide +kernel) (pa_cons (pv 4) pa_nil)) pe_int))))
      (pss_cons (ps_set (i := 7) sc_u_law_spoilt.nd rfl (by first | exact Or.inl rfl | exact Or.inr rfl) (pe_op (kx_catA (K := K)) (pe_op (kx_catA (K := K)) (pe_slice (kx_slB (K := K)) (pv 4) po_none (po_some (pv 6))) (pe_tup (pa_cons (pe_op op_mod (pe_callTy cr_intQ (by rfl) T.z_int (by decide +kernel) (pa_cons (pe_ix (kx_ix (K := K)) (pv 1) pe_int (fun _ _ => rfl)) pa_nil)) (pe_op op_add (pv 2) pe_int)) pa_nil))) (pe_slice (kx_slB (K := K)) (pv 4) (po_some (pe_op op_add (pv 6) pe_int)) po_none)))
      (pss_cons (ps_expr (pe_bm PySem.F.plainAttrs_list PySem.F.slot_list_append PySem.F.type_list_append mt_append (pv 5) (pa_cons (pe_op (kx_catA (K := K)) (pe_op (kx_catA (K := K)) (pe_slice (kx_slB (K := K)) (pv 0) po_none (po_some (pv 3))) (pe_lst (pa_cons (pv 7) pa_nil))) (pe_slice (kx_slB (K := K)) (pv 0) (po_some (pe_op op_add (pv 3) pe_int)) po_none)) pa_nil)))
      (pss_cons (ps_expr (pe_bm PySem.F.plainAttrs_list PySem.F.slot_list_append PySem.F.type_list_append mt_append (pv 5) (pa_cons (pe_op (kx_catA (K := K)) (pe_op (kx_catA (K := K)) (pe_slice (kx_slB (K := K)) (pv 0) po_none (po_some (pv 3))) (pe_lst (pa_cons (pe_op (kx_catA (K := K)) (pe_tup (pa_cons (pe_ix (kx_ix (K := K)) (pv 4) pe_int (fun _ _ => rfl)) (pa_cons (pe_ix (kx_ix (K := K)) (pv 4) pe_int (fun _ _ => rfl)) (pa_cons (pe_ix (kx_ix (K := K)) (pv 4) pe_int (fun _ _ => rfl)) pa_nil)))) (pe_slice (kx_slB (K := K)) (pv 4) (po_some pe_int) po_none)) pa_nil))) (pe_slice (kx_slB (K := K)) (pv 0) (po_some (pe_op op_add (pv 3) pe_int)) po_none)) pa_nil)))
      (pss_cons (ps_if (pt_cmpR (kx_eq (K := K) hr.units) (pe_ix (kx_ix (K := K)) (pv 4) pe_int (fun _ _ => rfl)) pe_str (nomark _)) (pss_cons (ps_expr (pe_bm PySem.F.plainAttrs_list PySem.F.slot_list_append PySem.F.type_list_append mt_append (pv 5) (pa_cons (pe_op (kx_catA (K := K)) (pe_op (kx_catA (K := K)) (pe_slice (kx_slB (K := K)) (pv 0) po_none (po_some (pv 3))) (pe_lst (pa_cons (pe_op (kx_catA (K := K)) (pe_tup (pa_cons pe_str pa_nil)) (pe_slice (kx_slB (K := K)) (pv 4) (po_some pe_int) (po_some pe_int))) pa_nil))) (pe_slice (kx_slB (K := K)) (pv 0) (po_some (pe_op op_add (pv 3) pe_int)) po_none)) pa_nil)))
      (pss_one (ps_expr (pe_bm PySem.F.plainAttrs_list PySem.F.slot_list_append PySem.F.type_list_append mt_append (pv 5) (pa_cons (pe_op (kx_catA (K := K)) (pe_op (kx_catA (K := K)) (pe_slice (kx_slB (K := K)) (pv 0) po_none (po_some (pv 3))) (pe_lst (pa_cons (pe_tup (pa_cons pe_str (pa_cons (pe_ix (kx_ix (K := K)) (pv 4) pe_int (fun _ _ => rfl)) (pa_cons (pe_ix (kx_ix (K := K)) (pv 4) pe_int (fun _ _ => rfl)) (pa_cons (pe_ix (kx_ix (K := K)) (pv 4) pe_int (fun _ _ => rfl)) (pa_cons (pe_ix (kx_ix (K := K)) (pv 4) pe_int (fun _ _ => rfl)) pa_nil)))))) pa_nil))) (pe_slice (kx_slB (K := K)) (pv 0) (po_some (pe_op op_add (pv 3) pe_int)) po_none)) pa_nil))))) pss_nil)
      (pss_cons (ps_if (pt_cmpR (kx_eq (K := K) hr.units) (pe_ix (kx_ix (K := K)) (pv 4) pe_int (fun _ _ => rfl)) pe_str (nomark _)) (pss_cons (ps_expr (pe_bm PySem.F.plainAttrs_list PySem.F.slot_list_append PySem.F.type_list_append mt_append (pv 5) (pa_cons (pe_op (kx_catA (K := K)) (pe_op (kx_catA (K := K)) (pe_slice (kx_slB (K := K)) (pv 0) po_none (po_some (pv 3))) (pe_lst (pa_cons (pe_op (kx_catA (K := K)) (pe_slice (kx_slB (K := K)) (pv 4) po_none (po_some pe_int)) (pe_tup (pa_cons (pe_ix (kx_ix (K := K)) (pv 4) pe_int (fun _ _ => rfl)) (pa_cons (pe_ix (kx_ix (K := K)) (pv 4) pe_int (fun _ _ => rfl)) pa_nil)))) pa_nil))) (pe_slice (kx_slB (K := K)) (pv 0) (po_some (pe_op op_add (pv 3) pe_int)) po_none)) pa_nil)))
      (pss_one (ps_expr (pe_bm PySem.F.plainAttrs_list PySem.F.slot_list_append PySem.F.type_list_append mt_append (pv 5) (pa_cons (pe_op (kx_catA (K := K)) (pe_op (kx_catA (K := K)) (pe_slice (kx_slB (K := K)) (pv 0) po_none (po_some (pv 3))) (pe_lst (pa_cons (pe_op (kx_catA (K := K)) (pe_op (kx_catA (K := K)) (pe_tup (pa_cons pe_str pa_nil)) (pe_slice (kx_slB (K := K)) (pv 4) (po_some pe_int) (po_some pe_int))) (pe_tup (pa_cons (pe_op op_mod (pe_callTy cr_intQ (by rfl) T.z_int (by decide +kernel) (pa_cons (pe_ix (kx_ix (K := K)) (pv 1) pe_int (fun _ _ => rfl)) pa_nil)) (pv 2)) pa_nil))) pa_nil))) (pe_slice (kx_slB (K := K)) (pv 0) (po_some (pe_op op_add (pv 3) pe_int)) po_none)) pa_nil))))) pss_nil)
      (pss_one (ps_ret (pv 5))))))))))))), ?_⟩)
  all_goals (try simp only [nox_K, blk_K, cx_K])
  · rintro g ds ⟨rfl, _⟩; rfl
  · rintro ⟨ss, Q, n⟩ ds ⟨rfl, l0, l10, lQ, n1, n10⟩
    simp only at l0 l10 lQ n1 n10
    have at0 : itemD (.list (Q.map PyData.int)) 0 = some (.int (Q.getD 0 0)) := at_intN (i := 0) (by omega)
    have at1 : itemD (.list (Q.map PyData.int)) 1 = some (.int (Q.getD 1 0)) := at_intN (i := 1) (by omega)
    have at2 : itemD (.list (Q.map PyData.int)) 2 = some (.int (Q.getD 2 0)) := at_intN (i := 2) (by omega)
    obtain ⟨t, et, tl⟩ := mod_nat (a := Q.getD 0 0) l0
    obtain ⟨s, es⟩ : ∃ s, ss[t]? = some s := ⟨_, List.getElem?_eq_getElem tl⟩
    obtain ⟨i3, i5⟩ := it_len s
    obtain ⟨w0, ew0, wl⟩ := mod_nat (a := Q.getD 1 0) (m := s.it.length - 1) (by omega)
    obtain ⟨v, ev, vl⟩ := mod_nat (a := Q.getD 2 0) (m := n + 1) (by omega)
    obtain ⟨u, eu, ul⟩ := mod_nat (a := Q.getD 2 0) (m := n) (by omega)
    obtain ⟨c1, c2, c3⟩ := chg s (w := 1 + w0) (by omega) (by omega) v
    obtain ⟨x0, x2, x1, e0, e2, e1, e3, e4⟩ := swp s
    have eM : spoM ⟨ss, Q, n⟩ = spoE ss t s (chgF s (1 + w0) v) u := by
      have h1 : (Q.getD 0 0 % (ss.length : Int)).toNat = t := by omega
      have h2 : ss.getD t (.pair 0 0) = s := by rw [List.getD_eq_getElem?_getD, es]; rfl
      unfold spoM
      simp only
      rw [h1, h2]
      have h3 : (Q.getD 1 0 % ((s.it.length - 1 : Nat) : Int)).toNat = w0 := by omega
      have h4 : (Q.getD 2 0 % ((n + 1 : Nat) : Int)).toNat = v := by omega
      have h5 : (Q.getD 2 0 % (n : Int)).toNat = u := by omega
      rw [h3, h4, h5]
    generalize chgF s (1 + w0) v = sc at *
    obtain ⟨sw, esw⟩ : ∃ sw, sw = swpF s := ⟨_, rfl⟩
    rw [← esw] at e3
    have lA : (cutG ss none (some (t : Int))).length ≤ ss.length := cutG_len
    have lB : (cutG ss (some ((t : Int) + 1)) none).length ≤ ss.length := cutG_len
    have lB0 : (cutG ss (some (t : Int)) none).length ≤ ss.length := cutG_len
    have lB2 : (cutG ss (some ((t : Int) + 2)) none).length ≤ ss.length := cutG_len
    have f3 : ∀ X : Sp, FnL (((cutG ss none (some (t : Int))) ++ [X]) ++ (cutG ss (some ((t : Int) + 1)) none)) := fun X => by
      unfold FnL
      simp
      omega
    refine wp_seq (wp_asg (d := .int (t : Int)) (ED.of (d := .int (Q.getD 0 0 % ((ss.map Sp.d).length : Int))) (by repeat' first | exact at0 | walk_at "ev2" | (show (0 : Int) < ((ss.map Sp.d).length : Int); rw [List.length_map]; omega) | fail) (by rw [List.length_map, et])) ?_)
    refine wp_seq (wp_asg (d := s.d) (ed_ix (x := .list (ss.map Sp.d)) (ed_var rfl) (ed_var rfl) (atI_map es)) ?_)
    refine wp_seq (wp_asgN (ds := ([(cutG ss none (some (t : Int))) ++ (cutG ss (some ((t : Int) + 1)) none), ss ++ [s], ((cutG ss none (some (t : Int))) ++ [s]) ++ (cutG ss (some (t : Int)) none)] : List (List Sp)).map stD) (en_lst (ea_cons (ED.of (d' := stD ((cutG ss none (some (t : Int))) ++ (cutG ss (some ((t : Int) + 1)) none))) (EN.ed (en_catA (EN.of (en_sliceB (ds := ss.map Sp.d) (lo := none) (hi := some (t : Int)) (ed_var rfl) eo_none (eo_some (ed_var rfl))) cutG_map) (EN.of (en_sliceB (ds := ss.map Sp.d) (lo := some ((t : Int) + 1)) (hi := none) (ed_var rfl) (eo_some (ed_rI0 (ed_var rfl) ed_int (Sc.int _))) eo_none) cutG_map) (by rw [List.length_map, List.length_map]; exact sz_small (by omega)))) (by unfold stD; rw [List.map_append])) (ea_cons (ED.of (d' := stD (ss ++ [s])) (EN.ed (en_catF (ds := ss.map Sp.d) (es := [s.d]) (ed_var rfl) (EN.ed (en_lst (ea_cons (ed_var rfl) ea_nil) (by show 1 ≤ _; decide))) (by rw [List.length_map]; exact sz_small (by show _ + 1 ≤ _; omega)))) (by unfold stD; rw [List.map_append]; rfl)) (ea_cons (ED.of (d' := stD (((cutG ss none (some (t : Int))) ++ [s]) ++ (cutG ss (some (t : Int)) none))) (EN.ed (en_catA (en_catA (EN.of (en_sliceB (ds := ss.map Sp.d) (lo := none) (hi := some (t : Int)) (ed_var rfl) eo_none (eo_some (ed_var rfl))) cutG_map) (en_lst (ea_cons (ed_var rfl) ea_nil) (by show 1 ≤ _; decide)) (by rw [List.length_map]; exact sz_small (by simp; omega))) (EN.of (en_sliceB (ds := ss.map Sp.d) (lo := some (t : Int)) (hi := none) (ed_var rfl) (eo_some (ed_var rfl)) eo_none) cutG_map) (by rw [List.length_append, List.length_map, List.length_map]; exact sz_small (by simp; omega)))) (by unfold stD; rw [List.map_append, List.map_append]; rfl)) ea_nil))) (by show 3 ≤ _; decide)) ?_)
    have g3 : ∀ L ∈ ([(cutG ss none (some (t : Int))) ++ (cutG ss (some ((t : Int) + 1)) none), ss ++ [s], ((cutG ss none (some (t : Int))) ++ [s]) ++ (cutG ss (some (t : Int)) none)] : List (List Sp)), FnL L := fun L m => by
      simp only [List.mem_cons, List.not_mem_nil, or_false] at m
      unfold FnL
      rcases m with e | e | e <;> (rw [e]; simp; omega)
    refine wp_seq (wp_cut (fun δ => ∃ (Ls : List (List Sp)) (a6 a7 : SV), δ = [.val (.list (ss.map Sp.d)), .val (.list (Q.map PyData.int)), .val (natD n), .val (.int (t : Int)), .val s.d, .own (.l (Ls.map stD)), a6, a7] ∧ Ls.length ≤ 4 ∧ (∀ L ∈ Ls, FnL L) ∧ Ls = ([(cutG ss none (some (t : Int))) ++ (cutG ss (some ((t : Int) + 1)) none), ss ++ [s], ((cutG ss none (some (t : Int))) ++ [s]) ++ (cutG ss (some (t : Int)) none)] : List (List Sp)) ++ (if t + 1 < ss.length then [((cutG ss none (some (t : Int))) ++ [ss.getD (t + 1) (.pair 0 0), s]) ++ (cutG ss (some ((t : Int) + 2)) none)] else [])) ?_ ?_)
    · refine wp_if (b := decide ((t : Int) + 1 < ((ss.map Sp.d).length : Int))) (et_B (ed_rI0 (ed_rI0 (ed_var rfl) ed_int (Sc.int _)) (ed_len (x := .list (ss.map Sp.d)) (ed_var rfl) rfl) (Sc.bl _))) (fun h => ?_) fun h => wp_next ⟨_, _, _, rfl, by show 3 ≤ 4; decide, g3, by
        have h := of_decide_eq_false h
        rw [List.length_map] at h
        rw [if_neg (by omega), List.append_nil]⟩
      have h := of_decide_eq_true h
      rw [List.length_map] at h
      have h' : t + 1 < ss.length := by omega
      obtain ⟨s2, es2⟩ : ∃ s2, ss[t + 1]? = some s2 := ⟨_, List.getElem?_eq_getElem (by omega)⟩
      have i2 : itemD (.list (ss.map Sp.d)) ((t : Int) + 1) = some s2.d := atI_map (k := t + 1) es2
      refine wp_app (d := stD (((cutG ss none (some (t : Int))) ++ [s2, s]) ++ (cutG ss (some ((t : Int) + 2)) none))) rfl (ED.of (d' := stD (((cutG ss none (some (t : Int))) ++ [s2, s]) ++ (cutG ss (some ((t : Int) + 2)) none))) (EN.ed (en_catA (en_catA (EN.of (en_sliceB (ds := ss.map Sp.d) (lo := none) (hi := some (t : Int)) (ed_var rfl) eo_none (eo_some (ed_var rfl))) cutG_map) (en_lst (ea_cons (ed_ix (x := .list (ss.map Sp.d)) (ed_var rfl) (ed_rI0 (ed_var rfl) ed_int (Sc.int _)) i2) (ea_cons (ed_var rfl) ea_nil)) (by show 2 ≤ _; decide)) (by rw [List.length_map]; exact sz_small (by simp; omega))) (EN.of (en_sliceB (ds := ss.map Sp.d) (lo := some ((t : Int) + 2)) (hi := none) (ed_var rfl) (eo_some (ed_rI0 (ed_var rfl) ed_int (Sc.int _))) eo_none) cutG_map) (by rw [List.length_append, List.length_map, List.length_map]; exact sz_small (by simp; omega)))) (by unfold stD; rw [List.map_append, List.map_append]; rfl)) (by show 3 < _; decide) ⟨_ ++ [_], _, _, by rw [List.map_append]; rfl, by show 4 ≤ 4; decide, fun L m => (List.mem_append.mp m).elim (g3 L) fun z => ?_, ?_⟩
      · rw [List.mem_singleton.mp z]
        unfold FnL
        simp
        omega
      · rw [if_pos h', List.getD_eq_getElem?_getD, es2]; rfl
    rintro δ ⟨Ls, a6, a7, rfl, lL, gL, eLs⟩
    have gapp : ∀ (Ls : List (List Sp)) X, (∀ L ∈ Ls, FnL L) → ∀ L ∈ Ls ++ [((cutG ss none (some (t : Int))) ++ [X]) ++ (cutG ss (some ((t : Int) + 1)) none)], FnL L := fun Ls X h L m => (List.mem_append.mp m).elim (h L) fun z => by rw [List.mem_singleton.mp z]; exact f3 X
    have ec : ((s.it.length - 1 : Nat) : Int) = (s.it.length : Int) - 1 := by omega
    rw [ec] at ew0
    refine wp_seq (wp_asg (d := .int ((1 + w0 : Nat) : Int)) (ED.of (d := .int (1 + Q.getD 1 0 % ((s.it.length : Int) - 1))) (by repeat' first | (show (0 : Int) < (s.it.length : Int) - 1; omega) | exact at1 | exact (ED.of (ed_len (x := .tuple s.it) (ED.of (d := s.d) (ed_var rfl) (sp_it s)) rfl) rfl) | walk_at "ev2" | fail) (congrArg PyData.int (by rw [← ew0]; omega))) ?_)
    refine wp_seq (wp_asg (d := sc.d) (ED.of (ed_catT (ds := cutD s.it none (some ((1 + w0 : Nat) : Int)) ++ [natD v]) (es := cutD s.it (some (((1 + w0 : Nat) : Int) + 1)) none) (ed_catT (ds := cutD s.it none (some ((1 + w0 : Nat) : Int))) (es := [natD v]) (ed_sliceT (ds := s.it) (lo := none) (hi := some ((1 + w0 : Nat) : Int)) (ED.of (d := s.d) (ed_var rfl) (sp_it s)) eo_none (eo_some (ed_var rfl))) (ed_tup (ea_cons (ED.of (d := .int (Q.getD 2 0 % ((n : Int) + 1))) (by repeat' first | exact at2 | walk_at "ev2" | (show (0 : Int) < (n : Int) + 1; omega) | fail) (congrArg PyData.int (show Q.getD 2 0 % ((n : Int) + 1) = (v : Int) from ev.symm))) ea_nil) (by show 1 ≤ _; decide)) c1 (Nat.le_trans (by rw [List.length_append, List.length_append] at c2; show _ + 1 ≤ 5; have : [natD v].length = 1 := rfl; omega) (by decide : 5 ≤ sizeLine))) (ed_sliceT (ds := s.it) (lo := some (((1 + w0 : Nat) : Int) + 1)) (hi := none) (ED.of (d := s.d) (ed_var rfl) (sp_it s)) (eo_some (ed_rI0 (ed_var rfl) ed_int (Sc.int _))) eo_none) (fun z => c1 (List.append_eq_nil_iff.mp z).1) (Nat.le_trans (by rw [← List.length_append]; exact c2) (by decide : 5 ≤ sizeLine))) c3) ?_)
    refine wp_seq (wp_app (d := stD (((cutG ss none (some (t : Int))) ++ [sc]) ++ (cutG ss (some ((t : Int) + 1)) none))) rfl (ED.of (d' := stD (((cutG ss none (some (t : Int))) ++ [sc]) ++ (cutG ss (some ((t : Int) + 1)) none))) (EN.ed (en_catA (en_catA (EN.of (en_sliceB (ds := ss.map Sp.d) (lo := none) (hi := some (t : Int)) (ed_var rfl) eo_none (eo_some (ed_var rfl))) cutG_map) (en_lst (ea_cons (ed_var rfl) ea_nil) (by show 1 ≤ _; decide)) (by rw [List.length_map]; exact sz_small (by simp; omega))) (EN.of (en_sliceB (ds := ss.map Sp.d) (lo := some ((t : Int) + 1)) (hi := none) (ed_var rfl) (eo_some (ed_rI0 (ed_var rfl) ed_int (Sc.int _))) eo_none) cutG_map) (by rw [List.length_append, List.length_map, List.length_map]; exact sz_small (by simp; omega)))) (by unfold stD; rw [List.map_append, List.map_append]; rfl)) (by rw [List.length_map]; exact small1000 (by omega)) ?_)
    refine wp_seq (wp_app (d := stD (((cutG ss none (some (t : Int))) ++ [sw]) ++ (cutG ss (some ((t : Int) + 1)) none))) rfl (ED.of (d' := stD (((cutG ss none (some (t : Int))) ++ [sw]) ++ (cutG ss (some ((t : Int) + 1)) none))) (EN.ed (en_catA (en_catA (EN.of (en_sliceB (ds := ss.map Sp.d) (lo := none) (hi := some (t : Int)) (ed_var rfl) eo_none (eo_some (ed_var rfl))) cutG_map) (en_lst (ea_cons (ED.of (ed_catT (ds := [x0, x2, x1]) (es := cutD s.it (some 3) none) (ed_tup (ea_cons (ed_ix (ed_var rfl) ed_int e0) (ea_cons (ed_ix (ed_var rfl) ed_int e2) (ea_cons (ed_ix (ed_var rfl) ed_int e1) ea_nil))) (by show 3 ≤ _; decide)) (ed_sliceT (ds := s.it) (lo := some 3) (hi := none) (ED.of (d := s.d) (ed_var rfl) (sp_it s)) (eo_some ed_int) eo_none) (fun z => nomatch z) (Nat.le_trans (show 3 + _ ≤ 5 by omega) (by decide : 5 ≤ sizeLine))) e3) ea_nil) (by show 1 ≤ _; decide)) (by rw [List.length_map]; exact sz_small (by simp; omega))) (EN.of (en_sliceB (ds := ss.map Sp.d) (lo := some ((t : Int) + 1)) (hi := none) (ed_var rfl) (eo_some (ed_rI0 (ed_var rfl) ed_int (Sc.int _))) eo_none) cutG_map) (by rw [List.length_append, List.length_map, List.length_map]; exact sz_small (by simp; omega)))) (by unfold stD; rw [List.map_append, List.map_append]; rfl)) (by rw [List.length_append, List.length_map]; exact small1000 (by show _ + 1 ≤ 1000; omega)) ?_)
    have gL2 := gapp _ sw (gapp _ sc gL)
    have eL2 : Ls.map stD ++ [stD (((cutG ss none (some (t : Int))) ++ [sc]) ++ (cutG ss (some ((t : Int) + 1)) none))] ++ [stD (((cutG ss none (some (t : Int))) ++ [sw]) ++ (cutG ss (some ((t : Int) + 1)) none))] = (Ls ++ [(((cutG ss none (some (t : Int))) ++ [sc]) ++ (cutG ss (some ((t : Int) + 1)) none))] ++ [(((cutG ss none (some (t : Int))) ++ [sw]) ++ (cutG ss (some ((t : Int) + 1)) none))]).map stD := by rw [List.map_append, List.map_append]; rfl
    rw [eL2]
    have lL2 : (Ls ++ [(((cutG ss none (some (t : Int))) ++ [sc]) ++ (cutG ss (some ((t : Int) + 1)) none))] ++ [(((cutG ss none (some (t : Int))) ++ [sw]) ++ (cutG ss (some ((t : Int) + 1)) none))]).length ≤ 6 := by simp; omega
    obtain ⟨L2, hL2⟩ : ∃ L2, L2 = Ls ++ [(((cutG ss none (some (t : Int))) ++ [sc]) ++ (cutG ss (some ((t : Int) + 1)) none))] ++ [(((cutG ss none (some (t : Int))) ++ [sw]) ++ (cutG ss (some ((t : Int) + 1)) none))] := ⟨_, rfl⟩
    rw [← hL2] at gL2 lL2 ⊢
    rw [eLs, esw] at hL2
    have fin : ∀ X : List (List Sp), X = L2 ++ tailS (cutG ss none (some (t : Int))) (cutG ss (some ((t : Int) + 1)) none) u s → X = spoM ⟨ss, Q, n⟩ := fun X e => by
      rw [e, hL2, eM]; rfl
    cases s with
    | pair a b =>
      refine wp_seq (wp_if (b := false) (et_eqS (ed_ix (x := (Sp.pair a b).d) (ed_var rfl) ed_int ix0) ed_str okPair3 okThree (decide_eq_false sPH)) (fun z => by cases z) fun _ => wp_next ?_)
      refine wp_seq (wp_if (b := false) (et_eqS (ed_ix (x := (Sp.pair a b).d) (ed_var rfl) ed_int ix0) ed_str okPair3 okTwo (decide_eq_false sPT)) (fun z => by cases z) fun _ => wp_next ?_)
      exact wp_retOwn rfl ⟨L2, rfl, by omega, gL2, fin _ (List.append_nil _).symm⟩
    | two k i j =>
      refine wp_seq (wp_if (b := false) (et_eqS (ed_ix (x := (Sp.two k i j).d) (ed_var rfl) ed_int ix0) ed_str okTwo okThree (decide_eq_false sTH)) (fun z => by cases z) fun _ => wp_next ?_)
      refine wp_seq (wp_if (b := true) (et_eqS (ed_ix (x := (Sp.two k i j).d) (ed_var rfl) ed_int ix0) ed_str okTwo okTwo (decide_eq_true rfl)) (fun _ => ?_) fun z => by cases z)
      refine wp_seq (wp_app (d := stD (((cutG ss none (some (t : Int))) ++ [Sp.two k j i]) ++ (cutG ss (some ((t : Int) + 1)) none))) rfl (ED.of (d' := stD (((cutG ss none (some (t : Int))) ++ [Sp.two k j i]) ++ (cutG ss (some ((t : Int) + 1)) none))) (EN.ed (en_catA (en_catA (EN.of (en_sliceB (ds := ss.map Sp.d) (lo := none) (hi := some (t : Int)) (ed_var rfl) eo_none (eo_some (ed_var rfl))) cutG_map) (en_lst (ea_cons (ED.of (d' := (Sp.two k j i).d) (ed_catT (ds := [.str "two", natD k]) (es := [natD j, natD i]) (ED.of (ed_sliceT (lo := none) (hi := some 2) (ED.of (d := (Sp.two k i j).d) (ed_var rfl) (by rfl)) eo_none (eo_some ed_int)) rfl) (ed_tup (ea_cons (ed_ix (x := (Sp.two k i j).d) (ed_var rfl) ed_int ix3) (ea_cons (ed_ix (x := (Sp.two k i j).d) (ed_var rfl) ed_int ix2) ea_nil)) (by show 2 ≤ _; decide)) (fun z => nomatch z) (by show 2 + 2 ≤ _; decide)) rfl) ea_nil) (by show 1 ≤ _; decide)) (by rw [List.length_map]; exact sz_small (by simp; omega))) (EN.of (en_sliceB (ds := ss.map Sp.d) (lo := some ((t : Int) + 1)) (hi := none) (ed_var rfl) (eo_some (ed_rI0 (ed_var rfl) ed_int (Sc.int _))) eo_none) cutG_map) (by rw [List.length_append, List.length_map, List.length_map]; exact sz_small (by simp; omega)))) (by unfold stD; rw [List.map_append, List.map_append]; rfl)) (by rw [List.length_map]; exact small1000 (by omega)) ?_)
      refine wp_app (d := stD (((cutG ss none (some (t : Int))) ++ [Sp.three k i j u]) ++ (cutG ss (some ((t : Int) + 1)) none))) rfl (ED.of (d' := stD (((cutG ss none (some (t : Int))) ++ [Sp.three k i j u]) ++ (cutG ss (some ((t : Int) + 1)) none))) (EN.ed (en_catA (en_catA (EN.of (en_sliceB (ds := ss.map Sp.d) (lo := none) (hi := some (t : Int)) (ed_var rfl) eo_none (eo_some (ed_var rfl))) cutG_map) (en_lst (ea_cons (ED.of (d' := (Sp.three k i j u).d) (ed_catT (ds := [.str "three", natD k, natD i, natD j]) (es := [natD u]) (ed_catT (ds := [.str "three"]) (es := [natD k, natD i, natD j]) (ed_tup (ea_cons ed_str ea_nil) (by show 1 ≤ _; decide)) (ED.of (ed_sliceT (lo := some 1) (hi := some 4) (ED.of (d := (Sp.two k i j).d) (ed_var rfl) (by rfl)) (eo_some ed_int) (eo_some ed_int)) rfl) (fun z => nomatch z) (by show 1 + 3 ≤ _; decide)) (ed_tup (ea_cons (ED.of (d := .int (Q.getD 2 0 % (n : Int))) (by repeat' first | exact at2 | walk_at "ev2" | (show (0 : Int) < (n : Int); omega) | fail) (congrArg PyData.int eu.symm)) ea_nil) (by show 1 ≤ _; decide)) (fun z => nomatch z) (by show 4 + 1 ≤ _; decide)) rfl) ea_nil) (by show 1 ≤ _; decide)) (by rw [List.length_map]; exact sz_small (by simp; omega))) (EN.of (en_sliceB (ds := ss.map Sp.d) (lo := some ((t : Int) + 1)) (hi := none) (ed_var rfl) (eo_some (ed_rI0 (ed_var rfl) ed_int (Sc.int _))) eo_none) cutG_map) (by rw [List.length_append, List.length_map, List.length_map]; exact sz_small (by simp; omega)))) (by unfold stD; rw [List.map_append, List.map_append]; rfl)) (by rw [List.length_append, List.length_map]; exact small1000 (by show _ + 1 ≤ 1000; omega)) ?_
      exact wp_retOwn rfl ⟨L2 ++ [(((cutG ss none (some (t : Int))) ++ [Sp.two k j i]) ++ (cutG ss (some ((t : Int) + 1)) none))] ++ [(((cutG ss none (some (t : Int))) ++ [Sp.three k i j u]) ++ (cutG ss (some ((t : Int) + 1)) none))], by rw [List.map_append, List.map_append]; rfl, by simp; omega, gapp _ _ (gapp _ _ gL2), fin _ (by rw [List.append_assoc]; rfl)⟩
    | three k i j h =>
      refine wp_seq (wp_cut (fun δ => ∃ (L3 : List (List Sp)) (a6 a7 : SV), δ = [.val (.list (ss.map Sp.d)), .val (.list (Q.map PyData.int)), .val (natD n), .val (.int (t : Int)), .val (Sp.three k i j h).d, .own (.l (L3.map stD)), a6, a7] ∧ L3.length ≤ 8 ∧ (∀ L ∈ L3, FnL L) ∧ L3 = spoM ⟨ss, Q, n⟩) ?_ ?_)
      · refine wp_if (b := true) (et_eqS (ed_ix (x := (Sp.three k i j h).d) (ed_var rfl) ed_int ix0) ed_str okThree okThree (decide_eq_true rfl)) (fun _ => ?_) fun z => by cases z
        refine wp_seq (wp_app (d := stD (((cutG ss none (some (t : Int))) ++ [Sp.two k i j]) ++ (cutG ss (some ((t : Int) + 1)) none))) rfl (ED.of (d' := stD (((cutG ss none (some (t : Int))) ++ [Sp.two k i j]) ++ (cutG ss (some ((t : Int) + 1)) none))) (EN.ed (en_catA (en_catA (EN.of (en_sliceB (ds := ss.map Sp.d) (lo := none) (hi := some (t : Int)) (ed_var rfl) eo_none (eo_some (ed_var rfl))) cutG_map) (en_lst (ea_cons (ED.of (d' := (Sp.two k i j).d) (ed_catT (ds := [.str "two"]) (es := [natD k, natD i, natD j]) (ed_tup (ea_cons ed_str ea_nil) (by show 1 ≤ _; decide)) (ED.of (ed_sliceT (lo := some 1) (hi := some 4) (ED.of (d := (Sp.three k i j h).d) (ed_var rfl) (by rfl)) (eo_some ed_int) (eo_some ed_int)) rfl) (fun z => nomatch z) (by show 1 + 3 ≤ _; decide)) rfl) ea_nil) (by show 1 ≤ _; decide)) (by rw [List.length_map]; exact sz_small (by simp; omega))) (EN.of (en_sliceB (ds := ss.map Sp.d) (lo := some ((t : Int) + 1)) (hi := none) (ed_var rfl) (eo_some (ed_rI0 (ed_var rfl) ed_int (Sc.int _))) eo_none) cutG_map) (by rw [List.length_append, List.length_map, List.length_map]; exact sz_small (by simp; omega)))) (by unfold stD; rw [List.map_append, List.map_append]; rfl)) (by rw [List.length_map]; exact small1000 (by omega)) ?_)
        exact wp_app (d := stD (((cutG ss none (some (t : Int))) ++ [Sp.three k i j j]) ++ (cutG ss (some ((t : Int) + 1)) none))) rfl (ED.of (d' := stD (((cutG ss none (some (t : Int))) ++ [Sp.three k i j j]) ++ (cutG ss (some ((t : Int) + 1)) none))) (EN.ed (en_catA (en_catA (EN.of (en_sliceB (ds := ss.map Sp.d) (lo := none) (hi := some (t : Int)) (ed_var rfl) eo_none (eo_some (ed_var rfl))) cutG_map) (en_lst (ea_cons (ED.of (d' := (Sp.three k i j j).d) (ed_tup (ea_cons ed_str (ea_cons (ed_ix (x := (Sp.three k i j h).d) (ed_var rfl) ed_int ix1) (ea_cons (ed_ix (x := (Sp.three k i j h).d) (ed_var rfl) ed_int ix2) (ea_cons (ed_ix (x := (Sp.three k i j h).d) (ed_var rfl) ed_int ix3) (ea_cons (ed_ix (x := (Sp.three k i j h).d) (ed_var rfl) ed_int ix3) ea_nil))))) (by show 5 ≤ _; decide)) rfl) ea_nil) (by show 1 ≤ _; decide)) (by rw [List.length_map]; exact sz_small (by simp; omega))) (EN.of (en_sliceB (ds := ss.map Sp.d) (lo := some ((t : Int) + 1)) (hi := none) (ed_var rfl) (eo_some (ed_rI0 (ed_var rfl) ed_int (Sc.int _))) eo_none) cutG_map) (by rw [List.length_append, List.length_map, List.length_map]; exact sz_small (by simp; omega)))) (by unfold stD; rw [List.map_append, List.map_append]; rfl)) (by rw [List.length_append, List.length_map]; exact small1000 (by show _ + 1 ≤ 1000; omega)) ⟨L2 ++ [(((cutG ss none (some (t : Int))) ++ [Sp.two k i j]) ++ (cutG ss (some ((t : Int) + 1)) none))] ++ [(((cutG ss none (some (t : Int))) ++ [Sp.three k i j j]) ++ (cutG ss (some ((t : Int) + 1)) none))], _, _, by rw [List.map_append, List.map_append]; rfl, by simp; omega, gapp _ _ (gapp _ _ gL2), fin _ (by rw [List.append_assoc]; rfl)⟩
      rintro δ ⟨L3, a6, a7, rfl, l3, g3', e3'⟩
      refine wp_seq (wp_if (b := false) (et_eqS (ed_ix (x := (Sp.three k i j h).d) (ed_var rfl) ed_int ix0) ed_str okThree okTwo (decide_eq_false fun e => sTH e.symm)) (fun z => by cases z) fun _ => wp_next ?_)
      exact wp_retOwn rfl ⟨L3, rfl, by omega, g3', e3'⟩

def R_law (ds : List D) (d : D) : Prop := ∃ ns : List Int, ds = [.list (ns.map PyData.int)] ∧ ns.length ≤ 63 ∧ d = .bool true
def sz33 : List Int := [7, 4, 42, 6, 6, 6, 6, 6, 6, 6, 6, 6, 6, 6, 6, 6, 6, 6, 6, 6, 6, 6, 6, 6, 6, 6, 6]
def toSp : Stp32 → Sp
  | .two k a b => .two k a b
  | .three k a b c => .three k a b c
theorem toSp_d (s : Stp32) : (toSp s).d = s.d := by cases s <;> rfl
theorem bld_sp (ss : List Stp32) (js : List Nat) : (ss.map Stp32.d ++ [pairS js]).reverse = ((ss.map toSp ++ [Sp.pair (js.getD 0 0) (js.getD 1 0)]).reverse).map Sp.d := by
  rw [List.map_reverse, List.map_append, List.map_map]
  congr 2
  exact List.map_congr_left fun s _ => (toSp_d s).symm
theorem spoE_ok {ss : List Sp} {t : Nat} {s sc : Sp} {u : Nat} (h : ss.length ≤ 10) : (spoE ss t s sc u).length ≤ 20 ∧ ∀ L ∈ spoE ss t s sc u, L.length ≤ 40 := by
  have lA : (cutG ss none (some (t : Int))).length ≤ ss.length := cutG_len
  have lB : (cutG ss (some ((t : Int) + 1)) none).length ≤ ss.length := cutG_len
  have lB0 : (cutG ss (some (t : Int)) none).length ≤ ss.length := cutG_len
  have lB2 : (cutG ss (some ((t : Int) + 2)) none).length ≤ ss.length := cutG_len
  unfold spoE
  generalize cutG ss none (some (t : Int)) = A at *
  generalize cutG ss (some ((t : Int) + 1)) none = B at *
  generalize cutG ss (some (t : Int)) none = B0 at *
  generalize cutG ss (some ((t : Int) + 2)) none = B2 at *
  refine ⟨?_, fun L m => ?_⟩
  · cases s <;> split <;> simp [tailS]
  · have tl : ∀ L ∈ tailS A B u s, L.length ≤ 40 := fun L m => by
      cases s with
      | pair a b => cases m
      | two k i j =>
        have m : L ∈ [(A ++ [Sp.two k j i]) ++ B, (A ++ [Sp.three k i j u]) ++ B] := m
        simp only [List.mem_cons, List.not_mem_nil, or_false] at m
        rcases m with rfl | rfl <;> (simp; omega)
      | three k i j h' =>
        have m : L ∈ [(A ++ [Sp.two k i j]) ++ B, (A ++ [Sp.three k i j j]) ++ B] := m
        simp only [List.mem_cons, List.not_mem_nil, or_false] at m
        rcases m with rfl | rfl <;> (simp; omega)
    rcases List.mem_append.mp m with m | m
    · rcases List.mem_append.mp m with m | m
      · rcases List.mem_append.mp m with m | m
        · rcases List.mem_append.mp m with m | m
          · simp only [List.mem_cons, List.not_mem_nil, or_false] at m
            rcases m with rfl | rfl | rfl <;> (simp; omega)
          · split at m
            · rw [List.mem_singleton.mp m]
              simp
              omega
            · cases m
        · rw [List.mem_singleton.mp m]
          simp
          omega
      · rw [List.mem_singleton.mp m]
        simp
        omega
    · exact tl L m
theorem spoM_ok {g : SpG} (h : g.ss.length ≤ 10) : (spoM g).length ≤ 20 ∧ ∀ L ∈ spoM g, L.length ≤ 40 := spoE_ok h
theorem ok_law (T : Txt K mg) (B : Lams T base w) : FnOk P w K mg base CX0 10 T.f_law T.fd_law ["script"] (spD K R_law) := by
  refine ok_wp T.F_law sc_law ?_ (fun cdv hcv A outer s H E hr => ⟨_, (pss_cons (ps_set (i := 1) sc_law.nd rfl (by first | exact Or.inl rfl | exact Or.inr rfl) (pe_call (ok_u_law_net T B) (hr.mono (by decide)) (by rfl) T.g_u_law_net T.F_u_law_net.kp T.b_u_law_net .nil pass0 (pa_cons (pv 0) (pa_cons pe_int (pa_cons pe_int pa_nil)))))
      (pss_cons (ps_set (i := 2) sc_law.nd rfl (by first | exact Or.inl rfl | exact Or.inr rfl) (pe_call (ok_u_law_parts T B) (hr.mono (by decide)) (by rfl) T.g_u_law_parts T.F_u_law_parts.kp T.b_u_law_parts .nil pass0 (pa_cons (pe_call (ok_u_law_cell T B) (hr.mono (by decide)) (by rfl) T.g_u_law_cell T.F_u_law_cell.kp T.b_u_law_cell .nil pass0 (pa_cons (pv 0) (pa_cons pe_int pa_nil))) (pa_cons (pe_op (kx_catA (K := K)) (pe_lst (pa_cons pe_int (pa_cons pe_int (pa_cons pe_int pa_nil)))) (pe_op op_rep (pe_lst (pa_cons pe_int pa_nil)) pe_int)) pa_nil))))
      (pss_cons (ps_set (i := 3) sc_law.nd rfl (by first | exact Or.inl rfl | exact Or.inr rfl) (pe_call (ok_building T B) (hr.mono (by decide)) (by rfl) T.g_building T.F_building.kp T.b_building .nil pass0 (pa_cons (pv 1) pa_nil)))
      (pss_cons (ps_if (pt_cmpR op_isNQ (pv 3) pe_non (nomark _)) (pss_one (ps_set (i := 3) sc_law.nd rfl (by first | exact Or.inl rfl | exact Or.inr rfl) (pe_op (kx_catA (K := K)) (pe_lst (pa_cons (pe_tup (pa_cons pe_str (pa_cons pe_int (pa_cons pe_int pa_nil)))) pa_nil)) (pe_lc (own := [("k", 8)]) (by rfl) sc_law.nd (pi_range2 (by rfl) T.z_range (pa_cons pe_int (pa_cons (pe_ix (kx_ix (K := K)) (pv 1) pe_int (fun _ _ => rfl)) pa_nil))) (by refine blkOk_by ?_; rfl) (fun _ _ _ _ _ => pg_name (i := 8) sc_law.nd rfl (by first | exact Or.inl rfl | exact Or.inr rfl)) (fun _ _ _ _ _ => pts_nil) (fun _ _ _ _ _ => (pe_tup (pa_cons pe_str (pa_cons (pv 8) (pa_cons (pe_op op_sub (pv 8) pe_int) (pa_cons (pe_op op_sub (pv 8) pe_int) pa_nil)))))))))) pss_nil)
      (pss_cons (ps_set (i := 4) sc_law.nd rfl (by first | exact Or.inl rfl | exact Or.inr rfl) (pe_tup (pa_cons (pe_ix (kx_ix (K := K)) (pv 1) pe_int (fun _ _ => rfl)) (pa_cons (pe_slice (kx_slB (K := K)) (pe_ix (kx_ix (K := K)) (pv 1) pe_int (fun _ _ => rfl)) po_none (po_some (pe_op op_mod (pe_callTy cr_intQ (by rfl) T.z_int (by decide +kernel) (pa_cons (pe_ix (kx_ix (K := K)) (pv 2) pe_int (fun _ _ => rfl)) pa_nil)) (pe_op op_add (pe_callB (kx_len (K := K)) (by rfl) T.z_len (by decide +kernel) (pa_cons (pe_ix (kx_ix (K := K)) (pv 1) pe_int (fun _ _ => rfl)) pa_nil)) pe_int)))) pa_nil))))
      (pss_cons (ps_for PassesOwn.never rfl (kpi_seq (K := K) (pe_op (kx_catF (K := K)) (pe_lst (pa_cons (pv 3) (pa_cons (pe_lst pa_nil) pa_nil))) (pe_call (ok_u_law_spoilt T B) (hr.mono (by decide)) (by rfl) T.g_u_law_spoilt T.F_u_law_spoilt.kp T.b_u_law_spoilt .nil pass0 (pa_cons (pv 3) (pa_cons (pv 2) (pa_cons (pe_ix (kx_ix (K := K)) (pv 1) pe_int (fun _ _ => rfl)) pa_nil)))))) (pg_name (i := 5) sc_law.nd rfl (by first | exact Or.inl rfl | exact Or.inr rfl))
      (pss_one (ps_for PassesOwn.never rfl (kpi_seq (K := K) (pe_lst (pa_cons (pv 1) (pa_cons (pv 4) pa_nil)))) (pg_name (i := 6) sc_law.nd rfl (by first | exact Or.inl rfl | exact Or.inr rfl))
      (pss_cons (ps_set (i := 7) sc_law.nd rfl (by first | exact Or.inl rfl | exact Or.inr rfl) (pe_call (ok_is_building T B) (hr.mono (by decide)) (by rfl) T.g_is_building T.F_is_building.kp T.b_is_building .nil pass0 (pa_cons (pv 6) (pa_cons (pv 5) pa_nil))))
      (pss_one (ps_if (PW.pt (pw_or (pt_not (pt_val (pe_callB (kx_isi (K := K)) (by rfl) T.z_isinstance (by decide +kernel) (pa_cons (pv 7) (pa_cons (pe_bltn (v := .ty "bool") (by rfl) T.z_bool (by decide +kernel) rfl) pa_nil))))) (pw_or1 (pt_cmpR (kx_ne (K := K) hr.units) (pv 7) (pe_call (ok_u_law_builds T B) (hr.mono (by decide)) (by rfl) T.g_u_law_builds T.F_u_law_builds.kp T.b_u_law_builds .nil pass0 (pa_cons (pv 6) (pa_cons (pv 5) pa_nil))) (nomark _))))) (pss_one (ps_ret pe_bl)) pss_nil))))))
      (pss_one (ps_ret pe_bl)))))))), ?_⟩)
  all_goals (try simp only [nox_K, blk_K, cx_K])
  · rintro ds d ⟨ns, rfl, _⟩; rfl
  · rintro ds d ⟨ns, rfl, hl, rfl⟩
    refine wp_seq (wp_asgP (ep_call (ds := [.list (ns.map PyData.int), .int 2, .int 6]) (by walk_at "ev") ⟨ns, 2, 6, rfl, by decide, by decide, by decide⟩) fun d hd => ?_)
    obtain ⟨n, pairs, rfl, n2, n6, ok⟩ := hd ns 2 6 rfl
    have pok := ok.ok
    have plen := ok.len
    have c2 : R_cell [.list (ns.map PyData.int), .int 2] (.int (ns.getD 2 0)) := ⟨ns, 2, rfl, rfl⟩
    have p2 : R_parts [.int (ns.getD 2 0), .list (sz33.map PyData.int)] (.list ((partsOf (ns.getD 2 0) sz33).map PyData.int)) := ⟨_, _, rfl, sizes_ok (by decide), by decide, rfl⟩
    have l2 : (partsOf (ns.getD 2 0) sz33).length = 27 := parts_len _ _
    generalize partsOf (ns.getD 2 0) sz33 = Q at *
    refine wp_seq (wp_asg (d := .list (Q.map PyData.int)) (ed_call (ea_cons (ed_call (ea_cons (ed_var rfl) (ea_cons ed_int ea_nil)) c2) (ea_cons (EN.ed (EN.of (en_catA (en_lst (ds := [.int 7, .int 4, .int 42]) (ea_cons ed_int (ea_cons ed_int (ea_cons ed_int ea_nil))) (by decide)) (en_rep (ds := [.int 6]) (k := 24) (en_lst (ea_cons ed_int ea_nil) (by decide)) ed_int (by decide) (by decide)) (by decide)) rfl)) ea_nil)) p2) ?_)
    have at2 : itemD (.list (Q.map PyData.int)) 2 = some (.int (Q.getD 2 0)) := at_intN (i := 2) (by omega)
    refine wp_seq (wp_asgP (ep_callG (Pre := Pre_bld) (Post := Post_bld) (⟨n, .tuple (pairs.map prD), pairs⟩ : GB) (ds := [.tuple [natD n, .tuple (pairs.map prD)]]) (ea_cons (ed_var rfl) ea_nil) ⟨rfl, rfl, ok.lt, n2, by show n ≤ 400; omega, by show pairs.length ≤ 900; omega⟩) fun d hd => ?_)
    have hd : d = .none ∨ ∃ L : List Sp, L.length ≤ 10 ∧ 0 < L.length ∧ d = .list (L.map Sp.d) := by
      by_cases h : ((Peb.chM n [] pairs).length : Int) < 2 * (n : Int) - 3
      · exact .inl (hd.1 h)
      · obtain ⟨ss, js, l, _, _, _, _, e, rfl⟩ := hd.2 h
        have e : ss.length + 2 = n := e
        exact .inr ⟨(ss.map toSp ++ [Sp.pair (js.getD 0 0) (js.getD 1 0)]).reverse, by simp; omega, by simp, by rw [bld_sp]⟩
    refine wp_seq (wp_cut (fun δ => ∃ (L : List Sp) (a4 a5 a6 a7 a8 : SV), δ = [.val (.list (ns.map PyData.int)), .val (.tuple [natD n, .tuple (pairs.map prD)]), .val (.list (Q.map PyData.int)), .val (.list (L.map Sp.d)), a4, a5, a6, a7, a8] ∧ L.length ≤ 10 ∧ 0 < L.length) ?_ ?_)
    · rcases hd with rfl | ⟨L, l10, l0, rfl⟩
      · refine wp_if (b := true) (ET.of (et_B (ed_isN (ed_var rfl))) rfl) (fun _ => ?_) fun z => by cases z
        refine wp_asg (d := .list (([Sp.pair 0 1] ++ (List.range (n - 2)).map fun k => Sp.two (k + 2) k (k + 1)).map Sp.d)) (EN.ed (EN.of (en_catA (ds := [(Sp.pair 0 1).d]) (es := (List.range (n - 2)).map fun k => (Sp.two (k + 2) k (k + 1)).d) (en_lst (ea_cons (ED.of (ed_tup (ea_cons ed_str (ea_cons ed_int (ea_cons ed_int ea_nil))) (by show 3 ≤ _; decide)) rfl) ea_nil) (by show 1 ≤ _; decide)) (en_lcA (xs := List.range (n - 2)) (gd := fun k => natD (k + 2)) (f := fun k => (Sp.two (k + 2) k (k + 1)).d) (EI.of (ei_rng2 (m := 2) (n := (n : Int)) ed_int (ed_ix (x := .tuple [natD n, .tuple (pairs.map prD)]) (ed_var rfl) ed_int ix0) (by omega)) ?_) (sz_small (by rw [List.length_range]; omega)) (fun q hq => gw_name (by decide)) fun k hk => ED.of (ed_tup (ea_cons ed_str (ea_cons (ed_var rfl) (ea_cons (ED.of (d' := natD k) (ed_rI0 (ed_var rfl) ed_int (Sc.int _)) (congrArg PyData.int (by show ((k + 2 : Nat) : Int) - 2 = (k : Int); omega))) (ea_cons (ED.of (d' := natD (k + 1)) (ed_rI0 (ed_var rfl) ed_int (Sc.int _)) (congrArg PyData.int (by show ((k + 2 : Nat) : Int) - 1 = ((k + 1 : Nat) : Int); omega))) ea_nil)))) (by show 4 ≤ _; decide)) rfl) (by rw [List.length_map, List.length_range]; exact sz_small (by show 1 + _ ≤ _; omega))) ?_)) ⟨_, _, _, _, _, _, rfl, by simp; omega, by simp⟩
        · unfold rngD
          rw [show ((n : Int) - 2).toNat = n - 2 by omega]
          refine List.map_congr_left fun k _ => ?_
          show PyData.int (2 + (k : Int)) = .int ((k + 2 : Nat) : Int)
          congr 1
          omega
        · rw [List.map_append, List.map_map]; rfl
      · exact wp_if (b := false) (ET.of (et_B (ed_isN (ed_var rfl))) rfl) (fun z => by cases z) fun _ => wp_next ⟨L, _, _, _, _, _, rfl, l10, l0⟩
    rintro δ ⟨L, a4, a5, a6, a7, a8, rfl, l10, l0⟩
    obtain ⟨m, em, ml⟩ := mod_nat (a := Q.getD 2 0) (m := pairs.length + 1) (by omega)
    have pl : (cutG pairs none (some (m : Int))).length ≤ pairs.length := cutG_len
    refine wp_seq (wp_asg (d := .tuple [natD n, .tuple ((cutG pairs none (some (m : Int))).map prD)]) (ed_tup (ea_cons (ed_ix (x := .tuple [natD n, .tuple (pairs.map prD)]) (ed_var rfl) ed_int ix0) (ea_cons (ED.of (ed_sliceT (ds := pairs.map prD) (lo := none) (hi := some (m : Int)) (ed_ix (x := .tuple [natD n, .tuple (pairs.map prD)]) (ed_var rfl) ed_int ix1) eo_none (eo_some (ED.of (d := .int (Q.getD 2 0 % (((pairs.map prD).length : Int) + 1))) (ed_rI (ed_int1 (ed_ix (x := .list (Q.map PyData.int)) (ed_var rfl) ed_int at2) rfl) (ed_rI0 (ed_len (x := .tuple (pairs.map prD)) (ed_ix (x := .tuple [natD n, .tuple (pairs.map prD)]) (ed_var rfl) ed_int ix1) rfl) ed_int (Sc.int _)) (by omega) (Sc.int _)) (by rw [List.length_map]; exact congrArg PyData.int em.symm)))) (congrArg PyData.tuple cutG_map)) ea_nil)) (by show 2 ≤ _; decide)) ?_)
    generalize cutG pairs none (some (m : Int)) = lesser at *
    obtain ⟨k20, kF⟩ := spoM_ok (g := ⟨L, Q, n⟩) l10
    refine wp_seq (wp_forG (xs := ([L, []] : List (List Sp)) ++ spoM ⟨L, Q, n⟩) (g := stD) (fun k δ => ∃ (a5 a6 a7 a8 : SV), δ = [.val (.list (ns.map PyData.int)), .val (.tuple [natD n, .tuple (pairs.map prD)]), .val (.list (Q.map PyData.int)), .val (.list (L.map Sp.d)), .val (.tuple [natD n, .tuple (lesser.map prD)]), a5, a6, a7, a8])
      (ei_seq (EN.ed (EN.of (en_catF (ds := [stD L, stD []]) (es := (spoM ⟨L, Q, n⟩).map stD) (EN.ed (en_lst (ea_cons (ed_var rfl) (ea_cons (EN.ed (en_lst ea_nil (by decide))) ea_nil)) (by show 2 ≤ _; decide))) (EPed (ep_callG (Pre := Pre_Spo) (Post := Post_Spo) (⟨L, Q, n⟩ : SpG) (ds := [.list (L.map Sp.d), .list (Q.map PyData.int), natD n]) (ea_cons (ed_var rfl) (ea_cons (ed_var rfl) (ea_cons (ed_ix (x := .tuple [natD n, .tuple (pairs.map prD)]) (ed_var rfl) ed_int ix0) ea_nil))) ⟨rfl, l0, l10, by show 3 ≤ Q.length; omega, by show 1 ≤ n; omega, by show n ≤ 10; omega⟩) fun d' ⟨Ls, e, _, _, e2⟩ => by rw [e, e2]) (by rw [List.length_map]; exact sz_small (by show 2 + _ ≤ _; omega))) (by rw [List.map_append]; rfl))) rfl) ⟨_, _, _, _, rfl⟩ ?_ ?_)
    · rintro k X δ ek ⟨a5, a6, a7, a8, rfl⟩
      have lX : X.length ≤ 40 := by
        rcases List.mem_append.mp (List.mem_of_getElem? ek) with z | z
        · simp only [List.mem_cons, List.not_mem_nil, or_false] at z
          rcases z with rfl | rfl
          · omega
          · exact Nat.zero_le _
        · exact kF X z
      refine wp_forG (xs := [pairs, lesser]) (g := fun ps => PyData.tuple [natD n, .tuple (ps.map prD)]) (fun k δ => ∃ (a6 a7 a8 : SV), δ = [.val (.list (ns.map PyData.int)), .val (.tuple [natD n, .tuple (pairs.map prD)]), .val (.list (Q.map PyData.int)), .val (.list (L.map Sp.d)), .val (.tuple [natD n, .tuple (lesser.map prD)]), .val (stD X), a6, a7, a8])
        (ei_seq (EN.ed (en_lst (ea_cons (ed_var rfl) (ea_cons (ed_var rfl) ea_nil)) (by show 2 ≤ _; decide))) rfl) ⟨_, _, _, rfl⟩ ?_ ?_
      · rintro k2 ps δ ek2 ⟨a6, a7, a8, rfl⟩
        have lps : ps.length ≤ 1000 := by
          have m := List.mem_of_getElem? ek2
          simp only [List.mem_cons, List.not_mem_nil, or_false] at m
          rcases m with rfl | rfl <;> omega
        have ri : R_isb [.tuple [natD n, .tuple (ps.map prD)], stD X] (.bool (isB n ps X)) := ⟨n, ps, X, rfl, by omega, by omega, lps, rfl⟩
        have rl : R_lb2 [.tuple [natD n, .tuple (ps.map prD)], stD X] (.bool (isB n ps X)) := ⟨n, ps, X, rfl, by omega, by omega, lps, rfl⟩
        refine wp_seq (wp_asg (ed_call (ea_cons (ed_var rfl) (ea_cons (ed_var rfl) ea_nil)) ri) ?_)
        generalize isB n ps X = b at *
        refine wp_if (b := false) (ET.of (et_or (et_not (et_test (ed_isi (b := true) (d := .bool b) (ed_var rfl) rfl))) fun _ => et_B (ed_neD (ed_var rfl) (ed_call (ea_cons (ed_var rfl) (ea_cons (ed_var rfl) ea_nil)) rl) shp_bl shp_bl rfl)) ?_) (fun z => by cases z) fun _ => wp_next ⟨_, _, _, rfl⟩
        cases b <;> rfl
      · rintro δ ⟨a6, a7, a8, rfl⟩
        exact ⟨_, _, _, _, rfl⟩
    · rintro δ ⟨a5, a6, a7, a8, rfl⟩
      exact wp_ret ed_bl rfl

end
theorem all_mk {l : PySem.W.OpenLaw} {w : World} {K : PySem.W.Frag} {h : Heap} {mg : Str → Option Value} {fa : Addr} (X : K.In h) (G : h.Ns mainGlobals mg) (hfa : mg "law" = some (.ref fa))
    {f0 f1 f2 f3 f4 f5 f6 f7 f8 f9 f10 f11 f12 f13 f14 f15 f16 f17 f18 f19 f20 f21 f22 : Addr}
    {cc9 : Addr}
    {od0 an0 : Option Addr} {sl0 : Array (Option Value)} {oc0 kV0 dc0 pm0 cd0 ct0 : Value}
    {od1 an1 : Option Addr} {sl1 : Array (Option Value)} {oc1 kV1 dc1 pm1 cd1 ct1 : Value}
    {od2 an2 : Option Addr} {sl2 : Array (Option Value)} {oc2 kV2 dc2 pm2 cd2 ct2 : Value}
    {od3 an3 : Option Addr} {sl3 : Array (Option Value)} {oc3 kV3 dc3 pm3 cd3 ct3 : Value}
    {od4 an4 : Option Addr} {sl4 : Array (Option Value)} {oc4 kV4 dc4 pm4 cd4 ct4 : Value}
    {od5 an5 : Option Addr} {sl5 : Array (Option Value)} {oc5 kV5 dc5 pm5 cd5 ct5 : Value}
    {od6 an6 : Option Addr} {sl6 : Array (Option Value)} {oc6 kV6 dc6 pm6 cd6 ct6 : Value}
    {od7 an7 : Option Addr} {sl7 : Array (Option Value)} {oc7 kV7 dc7 pm7 cd7 ct7 : Value}
    {od8 an8 : Option Addr} {sl8 : Array (Option Value)} {oc8 kV8 dc8 pm8 cd8 ct8 : Value}
    {od9 an9 : Option Addr} {sl9 : Array (Option Value)} {oc9 kV9 dc9 pm9 ct9 : Value}
    {od10 an10 : Option Addr} {sl10 : Array (Option Value)} {oc10 kV10 dc10 pm10 cd10 ct10 : Value}
    {od11 an11 : Option Addr} {sl11 : Array (Option Value)} {oc11 kV11 dc11 pm11 cd11 ct11 : Value}
    {od12 an12 : Option Addr} {sl12 : Array (Option Value)} {oc12 kV12 dc12 pm12 cd12 ct12 : Value}
    {od13 an13 : Option Addr} {sl13 : Array (Option Value)} {oc13 kV13 dc13 pm13 cd13 ct13 : Value}
    {od14 an14 : Option Addr} {sl14 : Array (Option Value)} {oc14 kV14 dc14 pm14 cd14 ct14 : Value}
    {od15 an15 : Option Addr} {sl15 : Array (Option Value)} {oc15 kV15 dc15 pm15 cd15 ct15 : Value}
    {od16 an16 : Option Addr} {sl16 : Array (Option Value)} {oc16 kV16 dc16 pm16 cd16 ct16 : Value}
    {od17 an17 : Option Addr} {sl17 : Array (Option Value)} {oc17 kV17 dc17 pm17 cd17 ct17 : Value}
    {od18 an18 : Option Addr} {sl18 : Array (Option Value)} {oc18 kV18 dc18 pm18 cd18 ct18 : Value}
    {od19 an19 : Option Addr} {sl19 : Array (Option Value)} {oc19 kV19 dc19 pm19 cd19 ct19 : Value}
    {od20 an20 : Option Addr} {sl20 : Array (Option Value)} {oc20 kV20 dc20 pm20 cd20 ct20 : Value}
    {od21 an21 : Option Addr} {sl21 : Array (Option Value)} {oc21 kV21 dc21 pm21 cd21 ct21 : Value}
    {od22 an22 : Option Addr} {sl22 : Array (Option Value)} {oc22 kV22 dc22 pm22 cd22 ct22 : Value}
    (a0 : PySem.W.nsIn K mainGlobals "reached" = some (some (.ref f0))) (l0 : K.lookup f0 = some ⟨oc0, od0, .func (PySem.W.fnOf "reached" "reached" (defArgs s_reached) (defBody s_reached) (defScope s_reached) .none kV0 dc0 pm0 an0 cd0 ct0), sl0⟩) (c0 : PySem.W.codeIn K cd0 "reached" = true) (k0 : PySem.W.keepIn K (.ref f0) = true)
    {C_Holder : Addr} (aC_Holder : PySem.W.nsIn K mainGlobals "Holder" = some (some (.ref C_Holder)))
    (pg_Holder : PySem.W.plainGet K C_Holder Str.empty = true) (hd_Holder : PySem.W.hasDictIn K C_Holder = true) (po_Holder : PySem.W.plainOver K C_Holder = true) (sa_Holder : PySem.W.findIn K (.ref C_Holder) "__setattr__" = some (some (.builtin "object.__setattr__"))) (mk_Holder : PySem.W.makesIn K C_Holder = true) (kc_Holder : PySem.W.keepIn K (.ref C_Holder) = true)
    (n_Holder_pebbles : PySem.W.findIn K (.ref C_Holder) "pebbles" = some none)
    (n_Holder_heads : PySem.W.findIn K (.ref C_Holder) "heads" = some none)
    (a1 : PySem.W.findIn K (.ref C_Holder) "__init__" = some (some (.ref f1))) (i1 : PySem.W.isFn K (.ref f1) = true) (l1 : K.lookup f1 = some ⟨oc1, od1, .func (PySem.W.fnOf "__init__" "Holder.__init__" (defArgs s_Holder___init__) (defBody s_Holder___init__) (defScope s_Holder___init__) .none kV1 dc1 pm1 an1 cd1 ct1), sl1⟩) (c1 : PySem.W.codeIn K cd1 "Holder.__init__" = true) (k1 : PySem.W.keepIn K (.ref f1) = true)
    (a2 : PySem.W.findIn K (.ref C_Holder) "take" = some (some (.ref f2))) (i2 : PySem.W.isFn K (.ref f2) = true) (l2 : K.lookup f2 = some ⟨oc2, od2, .func (PySem.W.fnOf "take" "Holder.take" (defArgs s_Holder_take) (defBody s_Holder_take) (defScope s_Holder_take) .none kV2 dc2 pm2 an2 cd2 ct2), sl2⟩) (c2 : PySem.W.codeIn K cd2 "Holder.take" = true) (k2 : PySem.W.keepIn K (.ref f2) = true)
    (a3 : PySem.W.findIn K (.ref C_Holder) "has_room" = some (some (.ref f3))) (i3 : PySem.W.isFn K (.ref f3) = true) (l3 : K.lookup f3 = some ⟨oc3, od3, .func (PySem.W.fnOf "has_room" "Holder.has_room" (defArgs s_Holder_has_room) (defBody s_Holder_has_room) (defScope s_Holder_has_room) .none kV3 dc3 pm3 an3 cd3 ct3), sl3⟩) (c3 : PySem.W.codeIn K cd3 "Holder.has_room" = true) (k3 : PySem.W.keepIn K (.ref f3) = true)
    (a4 : PySem.W.findIn K (.ref C_Holder) "bring" = some (some (.ref f4))) (i4 : PySem.W.isFn K (.ref f4) = true) (l4 : K.lookup f4 = some ⟨oc4, od4, .func (PySem.W.fnOf "bring" "Holder.bring" (defArgs s_Holder_bring) (defBody s_Holder_bring) (defScope s_Holder_bring) .none kV4 dc4 pm4 an4 cd4 ct4), sl4⟩) (c4 : PySem.W.codeIn K cd4 "Holder.bring" = true) (k4 : PySem.W.keepIn K (.ref f4) = true)
    (a5 : PySem.W.findIn K (.ref C_Holder) "pass_on" = some (some (.ref f5))) (i5 : PySem.W.isFn K (.ref f5) = true) (l5 : K.lookup f5 = some ⟨oc5, od5, .func (PySem.W.fnOf "pass_on" "Holder.pass_on" (defArgs s_Holder_pass_on) (defBody s_Holder_pass_on) (defScope s_Holder_pass_on) .none kV5 dc5 pm5 an5 cd5 ct5), sl5⟩) (c5 : PySem.W.codeIn K cd5 "Holder.pass_on" = true) (k5 : PySem.W.keepIn K (.ref f5) = true)
    (a6 : PySem.W.nsIn K mainGlobals "are_independent" = some (some (.ref f6))) (l6 : K.lookup f6 = some ⟨oc6, od6, .func (PySem.W.fnOf "are_independent" "are_independent" (defArgs s_are_independent) (defBody s_are_independent) (defScope s_are_independent) .none kV6 dc6 pm6 an6 cd6 ct6), sl6⟩) (c6 : PySem.W.codeIn K cd6 "are_independent" = true) (k6 : PySem.W.keepIn K (.ref f6) = true)
    (a7 : PySem.W.nsIn K mainGlobals "chosen" = some (some (.ref f7))) (l7 : K.lookup f7 = some ⟨oc7, od7, .func (PySem.W.fnOf "chosen" "chosen" (defArgs s_chosen) (defBody s_chosen) (defScope s_chosen) .none kV7 dc7 pm7 an7 cd7 ct7), sl7⟩) (c7 : PySem.W.codeIn K cd7 "chosen" = true) (k7 : PySem.W.keepIn K (.ref f7) = true)
    (a8 : PySem.W.nsIn K mainGlobals "building" = some (some (.ref f8))) (l8 : K.lookup f8 = some ⟨oc8, od8, .func (PySem.W.fnOf "building" "building" (defArgs s_building) (defBody s_building) (defScope s_building) .none kV8 dc8 pm8 an8 cd8 ct8), sl8⟩) (c8 : PySem.W.codeIn K cd8 "building" = true) (k8 : PySem.W.keepIn K (.ref f8) = true)
    (a9 : PySem.W.nsIn K mainGlobals "last_step" = some (some (.ref f9))) (l9 : K.lookup f9 = some ⟨oc9, od9, .func (PySem.W.fnOf "last_step" "last_step" (defArgs s_last_step) (defBody s_last_step) (defScope s_last_step) .none kV9 dc9 pm9 an9 (.ref cc9) ct9), sl9⟩) (c9 : PySem.W.codeIn K (.ref cc9) "last_step" = true) (k9 : PySem.W.keepIn K (.ref f9) = true)
    (a10 : PySem.W.nsIn K mainGlobals "neighbours" = some (some (.ref f10))) (l10 : K.lookup f10 = some ⟨oc10, od10, .func (PySem.W.fnOf "neighbours" "neighbours" (defArgs s_neighbours) (defBody s_neighbours) (defScope s_neighbours) .none kV10 dc10 pm10 an10 cd10 ct10), sl10⟩) (c10 : PySem.W.codeIn K cd10 "neighbours" = true) (k10 : PySem.W.keepIn K (.ref f10) = true)
    (a11 : PySem.W.nsIn K mainGlobals "three_step" = some (some (.ref f11))) (l11 : K.lookup f11 = some ⟨oc11, od11, .func (PySem.W.fnOf "three_step" "three_step" (defArgs s_three_step) (defBody s_three_step) (defScope s_three_step) .none kV11 dc11 pm11 an11 cd11 ct11), sl11⟩) (c11 : PySem.W.codeIn K cd11 "three_step" = true) (k11 : PySem.W.keepIn K (.ref f11) = true)
    (a12 : PySem.W.nsIn K mainGlobals "undone" = some (some (.ref f12))) (l12 : K.lookup f12 = some ⟨oc12, od12, .func (PySem.W.fnOf "undone" "undone" (defArgs s_undone) (defBody s_undone) (defScope s_undone) .none kV12 dc12 pm12 an12 cd12 ct12), sl12⟩) (c12 : PySem.W.codeIn K cd12 "undone" = true) (k12 : PySem.W.keepIn K (.ref f12) = true)
    (a13 : PySem.W.nsIn K mainGlobals "is_building" = some (some (.ref f13))) (l13 : K.lookup f13 = some ⟨oc13, od13, .func (PySem.W.fnOf "is_building" "is_building" (defArgs s_is_building) (defBody s_is_building) (defScope s_is_building) .none kV13 dc13 pm13 an13 cd13 ct13), sl13⟩) (c13 : PySem.W.codeIn K cd13 "is_building" = true) (k13 : PySem.W.keepIn K (.ref f13) = true)
    (a14 : PySem.W.nsIn K mainGlobals "can_follow" = some (some (.ref f14))) (l14 : K.lookup f14 = some ⟨oc14, od14, .func (PySem.W.fnOf "can_follow" "can_follow" (defArgs s_can_follow) (defBody s_can_follow) (defScope s_can_follow) .none kV14 dc14 pm14 an14 cd14 ct14), sl14⟩) (c14 : PySem.W.codeIn K cd14 "can_follow" = true) (k14 : PySem.W.keepIn K (.ref f14) = true)
    (a15 : PySem.W.nsIn K mainGlobals "after" = some (some (.ref f15))) (l15 : K.lookup f15 = some ⟨oc15, od15, .func (PySem.W.fnOf "after" "after" (defArgs s_after) (defBody s_after) (defScope s_after) .none kV15 dc15 pm15 an15 cd15 ct15), sl15⟩) (c15 : PySem.W.codeIn K cd15 "after" = true) (k15 : PySem.W.keepIn K (.ref f15) = true)
    (a16 : PySem.W.nsIn K mainGlobals "ascending" = some (some (.ref f16))) (l16 : K.lookup f16 = some ⟨oc16, od16, .func (PySem.W.fnOf "ascending" "ascending" (defArgs s_ascending) (defBody s_ascending) (defScope s_ascending) .none kV16 dc16 pm16 an16 cd16 ct16), sl16⟩) (c16 : PySem.W.codeIn K cd16 "ascending" = true) (k16 : PySem.W.keepIn K (.ref f16) = true)
    (a17 : PySem.W.nsIn K mainGlobals "_law_cell" = some (some (.ref f17))) (l17 : K.lookup f17 = some ⟨oc17, od17, .func (PySem.W.fnOf "_law_cell" "_law_cell" (defArgs s_u_law_cell) (defBody s_u_law_cell) (defScope s_u_law_cell) .none kV17 dc17 pm17 an17 cd17 ct17), sl17⟩) (c17 : PySem.W.codeIn K cd17 "_law_cell" = true) (k17 : PySem.W.keepIn K (.ref f17) = true)
    (a18 : PySem.W.nsIn K mainGlobals "_law_parts" = some (some (.ref f18))) (l18 : K.lookup f18 = some ⟨oc18, od18, .func (PySem.W.fnOf "_law_parts" "_law_parts" (defArgs s_u_law_parts) (defBody s_u_law_parts) (defScope s_u_law_parts) .none kV18 dc18 pm18 an18 cd18 ct18), sl18⟩) (c18 : PySem.W.codeIn K cd18 "_law_parts" = true) (k18 : PySem.W.keepIn K (.ref f18) = true)
    (a19 : PySem.W.nsIn K mainGlobals "_law_net" = some (some (.ref f19))) (l19 : K.lookup f19 = some ⟨oc19, od19, .func (PySem.W.fnOf "_law_net" "_law_net" (defArgs s_u_law_net) (defBody s_u_law_net) (defScope s_u_law_net) .none kV19 dc19 pm19 an19 cd19 ct19), sl19⟩) (c19 : PySem.W.codeIn K cd19 "_law_net" = true) (k19 : PySem.W.keepIn K (.ref f19) = true)
    (a20 : PySem.W.nsIn K mainGlobals "_law_builds" = some (some (.ref f20))) (l20 : K.lookup f20 = some ⟨oc20, od20, .func (PySem.W.fnOf "_law_builds" "_law_builds" (defArgs s_u_law_builds) (defBody s_u_law_builds) (defScope s_u_law_builds) .none kV20 dc20 pm20 an20 cd20 ct20), sl20⟩) (c20 : PySem.W.codeIn K cd20 "_law_builds" = true) (k20 : PySem.W.keepIn K (.ref f20) = true)
    (a21 : PySem.W.nsIn K mainGlobals "_law_spoilt" = some (some (.ref f21))) (l21 : K.lookup f21 = some ⟨oc21, od21, .func (PySem.W.fnOf "_law_spoilt" "_law_spoilt" (defArgs s_u_law_spoilt) (defBody s_u_law_spoilt) (defScope s_u_law_spoilt) .none kV21 dc21 pm21 an21 cd21 ct21), sl21⟩) (c21 : PySem.W.codeIn K cd21 "_law_spoilt" = true) (k21 : PySem.W.keepIn K (.ref f21) = true)
    (a22 : PySem.W.nsIn K mainGlobals "law" = some (some (.ref f22))) (l22 : K.lookup f22 = some ⟨oc22, od22, .func (PySem.W.fnOf "law" "law" (defArgs s_law) (defBody s_law) (defScope s_law) .none kV22 dc22 pm22 an22 cd22 ct22), sl22⟩) (c22 : PySem.W.codeIn K cd22 "law" = true) (k22 : PySem.W.keepIn K (.ref f22) = true)
    (z_all : PySem.W.nsIn K mainGlobals "all" = some none)
    (z_bool : PySem.W.nsIn K mainGlobals "bool" = some none)
    (z_int : PySem.W.nsIn K mainGlobals "int" = some none)
    (z_isinstance : PySem.W.nsIn K mainGlobals "isinstance" = some none)
    (z_len : PySem.W.nsIn K mainGlobals "len" = some none)
    (z_list : PySem.W.nsIn K mainGlobals "list" = some none)
    (z_max : PySem.W.nsIn K mainGlobals "max" = some none)
    (z_min : PySem.W.nsIn K mainGlobals "min" = some none)
    (z_range : PySem.W.nsIn K mainGlobals "range" = some none)
    (z_set : PySem.W.nsIn K mainGlobals "set" = some none)
    (z_sorted : PySem.W.nsIn K mainGlobals "sorted" = some none)
    (z_tuple : PySem.W.nsIn K mainGlobals "tuple" = some none)
    {a_LENGTHS : Addr} {kt_LENGTHS_0 kt_LENGTHS_1 kt_LENGTHS_2 : Tok} (c_LENGTHS : PySem.W.nsIn K mainGlobals "LENGTHS" = some (some (.ref a_LENGTHS))) (dw_LENGTHS : He.dicW K a_LENGTHS = some (He.keysIn w.params [("pair" : Str), ("two" : Str), ("three" : Str)]))
    (kv_LENGTHS_0 : PySem.W.nsIn K a_LENGTHS "pair" = some (some (.int 3 kt_LENGTHS_0)))
    (kv_LENGTHS_1 : PySem.W.nsIn K a_LENGTHS "two" = some (some (.int 4 kt_LENGTHS_1)))
    (kv_LENGTHS_2 : PySem.W.nsIn K a_LENGTHS "three" = some (some (.int 5 kt_LENGTHS_2)))
    (ts : List Addr) (tabs : ∀ P ∈ ts, h.get? P = some { cls := .none, data := .fields #[] })
    (hd9 : PySem.W.codeHdIn K cc9 (tabAt K cc9) = true) (nt9 : K.lookup (tabAt K cc9) = none) (te9 : ts.contains (tabAt K cc9) = true)
    : LamX.LawAtS l w K CX0 10 63 "script" mg fa h := by
  have e2 : f22 = fa := by
    have e := hfa.symm.trans (PySem.W.mg_of X G a22)
    cases e
    rfl
  subst e2
  have F0 := fun_mk (st := s_reached) l0 c0 k0
  have F1 := fun_mk (st := s_Holder___init__) l1 c1 k1
  have F2 := fun_mk (st := s_Holder_take) l2 c2 k2
  have F3 := fun_mk (st := s_Holder_has_room) l3 c3 k3
  have F4 := fun_mk (st := s_Holder_bring) l4 c4 k4
  have F5 := fun_mk (st := s_Holder_pass_on) l5 c5 k5
  have F6 := fun_mk (st := s_are_independent) l6 c6 k6
  have F7 := fun_mk (st := s_chosen) l7 c7 k7
  have F8 := fun_mk (st := s_building) l8 c8 k8
  have F9 := fun_mk (st := s_last_step) l9 c9 k9
  have F10 := fun_mk (st := s_neighbours) l10 c10 k10
  have F11 := fun_mk (st := s_three_step) l11 c11 k11
  have F12 := fun_mk (st := s_undone) l12 c12 k12
  have F13 := fun_mk (st := s_is_building) l13 c13 k13
  have F14 := fun_mk (st := s_can_follow) l14 c14 k14
  have F15 := fun_mk (st := s_after) l15 c15 k15
  have F16 := fun_mk (st := s_ascending) l16 c16 k16
  have F17 := fun_mk (st := s_u_law_cell) l17 c17 k17
  have F18 := fun_mk (st := s_u_law_parts) l18 c18 k18
  have F19 := fun_mk (st := s_u_law_net) l19 c19 k19
  have F20 := fun_mk (st := s_u_law_builds) l20 c20 k20
  have F21 := fun_mk (st := s_u_law_spoilt) l21 c21 k21
  have F22 := fun_mk (st := s_law) l22 c22 k22
  let T : Txt K mg := {
    f_reached := f0, fd_reached := _, F_reached := F0, g_reached := PySem.W.mg_of X G a0,
    b_reached := F0.binds (ps := ["ways", "start"]) fun _ _ _ _ _ _ us hl => match us, hl with | [_, _], _ => rfl,
    C_Holder := C_Holder, cl_Holder := ⟨pg_Holder, hd_Holder, po_Holder, sa_Holder⟩, g_Holder := PySem.W.mg_of X G aC_Holder,
    n_Holder_pebbles := n_Holder_pebbles,
    n_Holder_heads := n_Holder_heads,
    f_Holder___init__ := f1, fd_Holder___init__ := _, F_Holder___init__ := F1,
    mk_Holder := ⟨mk_Holder, a1, i1, kc_Holder⟩,
    b_Holder___init__ := F1.binds (ps := ["self", "n"]) fun _ _ _ _ _ _ us hl => match us, hl with | [_, _], _ => rfl,
    f_Holder_take := f2, fd_Holder_take := _, F_Holder_take := F2,
    m_Holder_take := ⟨a2, i2, k2⟩,
    b_Holder_take := F2.binds (ps := ["self", "i", "j"]) fun _ _ _ _ _ _ us hl => match us, hl with | [_, _, _], _ => rfl,
    f_Holder_has_room := f3, fd_Holder_has_room := _, F_Holder_has_room := F3,
    m_Holder_has_room := ⟨a3, i3, k3⟩,
    b_Holder_has_room := F3.binds (ps := ["self", "i", "j"]) fun _ _ _ _ _ _ us hl => match us, hl with | [_, _, _], _ => rfl,
    f_Holder_bring := f4, fd_Holder_bring := _, F_Holder_bring := F4,
    m_Holder_bring := ⟨a4, i4, k4⟩,
    b_Holder_bring := F4.binds (ps := ["self", "joint", "other"]) fun _ _ _ _ _ _ us hl => match us, hl with | [_, _, _], _ => rfl,
    f_Holder_pass_on := f5, fd_Holder_pass_on := _, F_Holder_pass_on := F5,
    m_Holder_pass_on := ⟨a5, i5, k5⟩,
    b_Holder_pass_on := F5.binds (ps := ["self", "joint", "before"]) fun _ _ _ _ _ _ us hl => match us, hl with | [_, _, _], _ => rfl,
    f_are_independent := f6, fd_are_independent := _, F_are_independent := F6, g_are_independent := PySem.W.mg_of X G a6,
    b_are_independent := F6.binds (ps := ["n", "pairs"]) fun _ _ _ _ _ _ us hl => match us, hl with | [_, _], _ => rfl,
    f_chosen := f7, fd_chosen := _, F_chosen := F7, g_chosen := PySem.W.mg_of X G a7,
    b_chosen := F7.binds (ps := ["net"]) fun _ _ _ _ _ _ us hl => match us, hl with | [_], _ => rfl,
    f_building := f8, fd_building := _, F_building := F8, g_building := PySem.W.mg_of X G a8,
    b_building := F8.binds (ps := ["net"]) fun _ _ _ _ _ _ us hl => match us, hl with | [_], _ => rfl,
    f_last_step := f9, fd_last_step := _, F_last_step := F9, g_last_step := PySem.W.mg_of X G a9,
    b_last_step := F9.binds (ps := ["n", "joints", "pairs"]) fun _ _ _ _ _ _ us hl => match us, hl with | [_, _, _], _ => rfl,
    f_neighbours := f10, fd_neighbours := _, F_neighbours := F10, g_neighbours := PySem.W.mg_of X G a10,
    b_neighbours := F10.binds (ps := ["joint", "pairs"]) fun _ _ _ _ _ _ us hl => match us, hl with | [_, _], _ => rfl,
    f_three_step := f11, fd_three_step := _, F_three_step := F11, g_three_step := PySem.W.mg_of X G a11,
    b_three_step := F11.binds (ps := ["n", "k", "near", "pairs"]) fun _ _ _ _ _ _ us hl => match us, hl with | [_, _, _, _], _ => rfl,
    f_undone := f12, fd_undone := _, F_undone := F12, g_undone := PySem.W.mg_of X G a12,
    b_undone := F12.binds (ps := ["pairs", "step"]) fun _ _ _ _ _ _ us hl => match us, hl with | [_, _], _ => rfl,
    f_is_building := f13, fd_is_building := _, F_is_building := F13, g_is_building := PySem.W.mg_of X G a13,
    b_is_building := F13.binds (ps := ["net", "steps"]) fun _ _ _ _ _ _ us hl => match us, hl with | [_, _], _ => rfl,
    f_can_follow := f14, fd_can_follow := _, F_can_follow := F14, g_can_follow := PySem.W.mg_of X G a14,
    b_can_follow := F14.binds (ps := ["joints", "there", "step"]) fun _ _ _ _ _ _ us hl => match us, hl with | [_, _, _], _ => rfl,
    f_after := f15, fd_after := _, F_after := F15, g_after := PySem.W.mg_of X G a15,
    b_after := F15.binds (ps := ["joints", "there", "step"]) fun _ _ _ _ _ _ us hl => match us, hl with | [_, _, _], _ => rfl,
    f_ascending := f16, fd_ascending := _, F_ascending := F16, g_ascending := PySem.W.mg_of X G a16,
    b_ascending := F16.binds (ps := ["i", "j"]) fun _ _ _ _ _ _ us hl => match us, hl with | [_, _], _ => rfl,
    f_u_law_cell := f17, fd_u_law_cell := _, F_u_law_cell := F17, g_u_law_cell := PySem.W.mg_of X G a17,
    b_u_law_cell := F17.binds (ps := ["script", "k"]) fun _ _ _ _ _ _ us hl => match us, hl with | [_, _], _ => rfl,
    f_u_law_parts := f18, fd_u_law_parts := _, F_u_law_parts := F18, g_u_law_parts := PySem.W.mg_of X G a18,
    b_u_law_parts := F18.binds (ps := ["cell", "sizes"]) fun _ _ _ _ _ _ us hl => match us, hl with | [_, _], _ => rfl,
    f_u_law_net := f19, fd_u_law_net := _, F_u_law_net := F19, g_u_law_net := PySem.W.mg_of X G a19,
    b_u_law_net := F19.binds (ps := ["script", "least", "most"]) fun _ _ _ _ _ _ us hl => match us, hl with | [_, _, _], _ => rfl,
    f_u_law_builds := f20, fd_u_law_builds := _, F_u_law_builds := F20, g_u_law_builds := PySem.W.mg_of X G a20,
    b_u_law_builds := F20.binds (ps := ["net", "steps"]) fun _ _ _ _ _ _ us hl => match us, hl with | [_, _], _ => rfl,
    f_u_law_spoilt := f21, fd_u_law_spoilt := _, F_u_law_spoilt := F21, g_u_law_spoilt := PySem.W.mg_of X G a21,
    b_u_law_spoilt := F21.binds (ps := ["steps", "parts", "n"]) fun _ _ _ _ _ _ us hl => match us, hl with | [_, _, _], _ => rfl,
    f_law := f22, fd_law := _, F_law := F22, g_law := PySem.W.mg_of X G a22,
    z_all := PySem.W.mg_none_of X G z_all,
    z_bool := PySem.W.mg_none_of X G z_bool,
    z_int := PySem.W.mg_none_of X G z_int,
    z_isinstance := PySem.W.mg_none_of X G z_isinstance,
    z_len := PySem.W.mg_none_of X G z_len,
    z_list := PySem.W.mg_none_of X G z_list,
    z_max := PySem.W.mg_none_of X G z_max,
    z_min := PySem.W.mg_none_of X G z_min,
    z_range := PySem.W.mg_none_of X G z_range,
    z_set := PySem.W.mg_none_of X G z_set,
    z_sorted := PySem.W.mg_none_of X G z_sorted,
    z_tuple := PySem.W.mg_none_of X G z_tuple,
    a_LENGTHS := a_LENGTHS, c_LENGTHS := PySem.W.mg_of X G c_LENGTHS,
    cc_last_step := cc9, P_last_step := tabAt K cc9, code_last_step := rfl,
  }
  have hun : ∀ p ∈ [(tabAt K cc9, ((PyProof.Rows.envOfC "last_step" (defScope s_last_step) 0 0 .none).qual ++ "<lambda>"))], ∀ p2 ∈ [(tabAt K cc9, ((PyProof.Rows.envOfC "last_step" (defScope s_last_step) 0 0 .none).qual ++ "<lambda>"))], p.1 = p2.1 → p.2 = p2.2 := by
    intro p mp q mq e
    simp only [List.mem_cons, List.not_mem_nil, or_false] at mp mq
    rw [mp, mq]
  letI G1 : TabEnv := ⟨[(tabAt K cc9, ((PyProof.Rows.envOfC "last_step" (defScope s_last_step) 0 0 .none).qual ++ "<lambda>"))], hun⟩
  refine lawAtS_of (E := G1) (cs := [(cc9, tabAt K cc9)]) (R := R_law) (fd := PySem.W.fnOf "law" "law" (defArgs s_law) (defBody s_law) (defScope s_law) .none kV22 dc22 pm22 an22 cd22 ct22) ?_ ?_ ?_ ?_ X (fun s v => .of_eq rfl) (fun ns hl => ⟨ns, rfl, hl, rfl⟩) fun base _ _ hB => ok_law T ?_
  · exact List.forall_mem_cons.mpr ⟨⟨(cc9, tabAt K cc9), (List.mem_cons_self ..), rfl⟩, fun _ z => by cases z⟩
  · exact List.forall_mem_cons.mpr ⟨tabs _ (List.contains_iff_mem.mp te9), fun _ z => by cases z⟩
  · exact List.forall_mem_cons.mpr ⟨nt9, fun _ z => by cases z⟩
  · exact List.forall_mem_cons.mpr ⟨hd9, fun _ z => by cases z⟩
  · exact ⟨⟨He.dicW_ok dw_LENGTHS, List.forall_mem_cons.mpr ⟨⟨_, kv_LENGTHS_0⟩, List.forall_mem_cons.mpr ⟨⟨_, kv_LENGTHS_1⟩, List.forall_mem_cons.mpr ⟨⟨_, kv_LENGTHS_2⟩, fun _ z => by cases z⟩⟩⟩⟩, hB _ (List.mem_cons_self ..), (List.mem_cons_self ..)⟩
end DX
open PySem PySem.W PyProof.Rows
set_option maxHeartbeats 0 in
theorem PySem.Challenge.cw_loadorloose_k33_buildings_are_judged_holds : PySem.Challenge.rw_loadorloose_k33_buildings_are_judged.Holds := by
  w_on; o_law; k_head; (case hw => w_witness2)
  k_fill
  refine LamX.walk_ofTs (l := PySem.Challenge.rw_loadorloose_k33_buildings_are_judged) (n := 63) (k := 10) (x := "script") (CX := fun _ => L2.CX0) rfl (by decide) rfl ⟨rfl, by decide, by decide⟩ (fun w h Y => PySem.W.km_in_of Y) ?F (fun _ _ _ _ _ h => h)
  case F =>
    intro w mg fa h Y KX G hmg
    refine' DX.all_mk KX G hmg ?a0 ?l0 ?c0 ?k0 ?aC_Holder ?pg_Holder ?hd_Holder ?po_Holder ?sa_Holder ?mk_Holder ?kc_Holder ?n_Holder_pebbles ?n_Holder_heads ?a1 ?i1 ?l1 ?c1 ?k1 ?a2 ?i2 ?l2 ?c2 ?k2 ?a3 ?i3 ?l3 ?c3 ?k3 ?a4 ?i4 ?l4 ?c4 ?k4 ?a5 ?i5 ?l5 ?c5 ?k5 ?a6 ?l6 ?c6 ?k6 ?a7 ?l7 ?c7 ?k7 ?a8 ?l8 ?c8 ?k8 ?a9 ?l9 ?c9 ?k9 ?a10 ?l10 ?c10 ?k10 ?a11 ?l11 ?c11 ?k11 ?a12 ?l12 ?c12 ?k12 ?a13 ?l13 ?c13 ?k13 ?a14 ?l14 ?c14 ?k14 ?a15 ?l15 ?c15 ?k15 ?a16 ?l16 ?c16 ?k16 ?a17 ?l17 ?c17 ?k17 ?a18 ?l18 ?c18 ?k18 ?a19 ?l19 ?c19 ?k19 ?a20 ?l20 ?c20 ?k20 ?a21 ?l21 ?c21 ?k21 ?a22 ?l22 ?c22 ?k22 ?z_all ?z_bool ?z_int ?z_isinstance ?z_len ?z_list ?z_max ?z_min ?z_range ?z_set ?z_sorted ?z_tuple ?c_LENGTHS ?dw_LENGTHS ?kv_LENGTHS_0 ?kv_LENGTHS_1 ?kv_LENGTHS_2 _ (PySem.W.km_tabs_of Y) ?hd9 ?nt9 ?te9
    (case a0 => k_is); (case l0 => k_is); (case c0 => k_is); (case k0 => k_is); (case aC_Holder => k_is); (case pg_Holder => k_is); (case hd_Holder => k_is); (case po_Holder => k_is); (case sa_Holder => k_is); (case mk_Holder => k_is); (case kc_Holder => k_is); (case n_Holder_pebbles => k_is); (case n_Holder_heads => k_is); (case a1 => k_is); (case i1 => k_is); (case l1 => k_is); (case c1 => k_is); (case k1 => k_is); (case a2 => k_is); (case i2 => k_is); (case l2 => k_is); (case c2 => k_is); (case k2 => k_is); (case a3 => k_is); (case i3 => k_is); (case l3 => k_is); (case c3 => k_is); (case k3 => k_is); (case a4 => k_is); (case i4 => k_is); (case l4 => k_is); (case c4 => k_is); (case k4 => k_is); (case a5 => k_is); (case i5 => k_is); (case l5 => k_is); (case c5 => k_is); (case k5 => k_is); (case a6 => k_is); (case l6 => k_is); (case c6 => k_is); (case k6 => k_is); (case a7 => k_is); (case l7 => k_is); (case c7 => k_is); (case k7 => k_is); (case a8 => k_is); (case l8 => k_is); (case c8 => k_is); (case k8 => k_is); (case a9 => k_is); (case l9 => k_is); (case c9 => k_is); (case k9 => k_is); (case a10 => k_is); (case l10 => k_is); (case c10 => k_is); (case k10 => k_is); (case a11 => k_is); (case l11 => k_is); (case c11 => k_is); (case k11 => k_is); (case a12 => k_is); (case l12 => k_is); (case c12 => k_is); (case k12 => k_is); (case a13 => k_is); (case l13 => k_is); (case c13 => k_is); (case k13 => k_is); (case a14 => k_is); (case l14 => k_is); (case c14 => k_is); (case k14 => k_is); (case a15 => k_is); (case l15 => k_is); (case c15 => k_is); (case k15 => k_is); (case a16 => k_is); (case l16 => k_is); (case c16 => k_is); (case k16 => k_is); (case a17 => k_is); (case l17 => k_is); (case c17 => k_is); (case k17 => k_is); (case a18 => k_is); (case l18 => k_is); (case c18 => k_is); (case k18 => k_is); (case a19 => k_is); (case l19 => k_is); (case c19 => k_is); (case k19 => k_is); (case a20 => k_is); (case l20 => k_is); (case c20 => k_is); (case k20 => k_is); (case a21 => k_is); (case l21 => k_is); (case c21 => k_is); (case k21 => k_is); (case a22 => k_is); (case l22 => k_is); (case c22 => k_is); (case k22 => k_is); (case z_all => k_is); (case z_bool => k_is); (case z_int => k_is); (case z_isinstance => k_is); (case z_len => k_is); (case z_list => k_is); (case z_max => k_is); (case z_min => k_is); (case z_range => k_is); (case z_set => k_is); (case z_sorted => k_is); (case z_tuple => k_is); (case c_LENGTHS => k_is); (case dw_LENGTHS => first | kernel_rfl | rfl | k_is); (case kv_LENGTHS_0 => k_is); (case kv_LENGTHS_1 => k_is); (case kv_LENGTHS_2 => k_is)
    (case hd9 => kernel_rfl); (case nt9 => kernel_rfl); (case te9 => kernel_rfl)

