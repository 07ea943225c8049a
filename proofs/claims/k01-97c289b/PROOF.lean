import PyProof.Rows.All
import Wide.All
import OpenK.AllK
import Wide.FinOn
import HandS.ForMost
import HandS.Walk
import HandS.Zip
import HandS.IsInst
import HandS.Deep
import HandS.Defaults
import HandS.Codes
import PySem.Challenge.RW_pairbinds_k01_words_judged

set_option Elab.async false
set_option linter.all false
set_option maxRecDepth 100000
set_option maxHeartbeats 4000000

/-! QD1: data over the abstract heap: what a value stands for, what may change, what the slots hold. -/
namespace QD
open PySem L2

/-- data: what a value stands for. raw: the value itself (a def, a class, the bag) -/
inductive D where
  | non | bl (b : Bool) | int (i : Int) | str (x : Str) | lst (ds : List D) | tup (ds : List D) | ins (C : Addr) (fs : List (Str × D)) | raw (v : V)
deriving Inhabited

section
variable (K : PySem.W.Frag) (H : Hp)
mutual
def R : D → V → Prop
  | .non, v => v = .non
  | .bl b, v => v = .bl b
  | .int i, v => v = .int i
  | .str x, v => v = .str x
  | .lst ds, v => ∃ a xs, v = .ref a ∧ H a = some (.lst xs) ∧ RA ds xs
  | .tup ds, v => ∃ a xs, v = .ref a ∧ SqT K H a xs ∧ RA ds xs
  | .ins C fs, v => ∃ a dx gs, v = .ref a ∧ H a = some (.ins C dx gs) ∧ RF fs gs
  | .raw u, v => v = u
def RA : List D → List V → Prop
  | [], vs => vs = []
  | d :: ds, vs => ∃ v r, vs = v :: r ∧ R d v ∧ RA ds r
def RF : List (Str × D) → List (Str × V) → Prop
  | [], gs => gs = []
  | f :: fs, gs => ∃ v r, gs = (f.1, v) :: r ∧ R f.2 v ∧ RF fs r
end
end

def Grow (H H' : Hp) : Prop := ∀ a o, H a = some o → H' a = some o
theorem grow_l {K : PySem.W.Frag} {H H' : Hp} {a : Addr} {xs : List V} (e : Grow H H') (h : SqL K H a xs) : SqL K H' a xs := by
  rcases h with (h | ⟨o, h⟩) | h
  · exact .inl (.inl (e _ _ h))
  · exact .inl (.inr ⟨o, e _ _ h⟩)
  · exact .inr h
theorem grow_t {K : PySem.W.Frag} {H H' : Hp} {a : Addr} {xs : List V} (e : Grow H H') (h : SqT K H a xs) : SqT K H' a xs := by
  rcases h with (h | ⟨o, h⟩) | h
  · exact .inl (.inl (e _ _ h))
  · exact .inl (.inr ⟨o, e _ _ h⟩)
  · exact .inr h
section
variable {K : PySem.W.Frag} {H H' : Hp}
mutual
theorem R.grow (e : Grow H H') : ∀ (d : D) (v : V), R K H d v → R K H' d v
  | .non, _, h => h
  | .bl _, _, h => h
  | .int _, _, h => h
  | .str _, _, h => h
  | .lst ds, v, h => by
    obtain ⟨a, xs, e1, h1, h2⟩ := h
    exact ⟨a, xs, e1, e _ _ h1, RA.grow e ds xs h2⟩
  | .tup ds, v, h => by
    obtain ⟨a, xs, e1, h1, h2⟩ := h
    exact ⟨a, xs, e1, grow_t e h1, RA.grow e ds xs h2⟩
  | .ins C fs, v, h => by
    obtain ⟨a, dx, gs, e1, h1, h2⟩ := h
    exact ⟨a, dx, gs, e1, e _ _ h1, RF.grow e fs gs h2⟩
  | .raw _, _, h => h
theorem RA.grow (e : Grow H H') : ∀ (ds : List D) (vs : List V), RA K H ds vs → RA K H' ds vs
  | [], _, h => h
  | d :: ds, vs, h => by
    obtain ⟨v, r, e1, h1, h2⟩ := h
    exact ⟨v, r, e1, R.grow e d v h1, RA.grow e ds r h2⟩
theorem RF.grow (e : Grow H H') : ∀ (fs : List (Str × D)) (gs : List (Str × V)), RF K H fs gs → RF K H' fs gs
  | [], _, h => h
  | f :: fs, gs, h => by
    obtain ⟨v, r, e1, h1, h2⟩ := h
    exact ⟨v, r, e1, R.grow e f.2 v h1, RF.grow e fs r h2⟩
end
theorem RA.length : ∀ {ds : List D} {vs : List V}, RA K H ds vs → vs.length = ds.length
  | [], vs, h => by
    have e : vs = [] := h
    subst e
    rfl
  | d :: ds, vs, h => by
    obtain ⟨v, r, e1, h1, h2⟩ := h
    rw [e1, List.length_cons, List.length_cons, RA.length h2]
theorem RA.get : ∀ {ds : List D} {vs : List V} {i : Nat} {v : V}, RA K H ds vs → vs[i]? = some v → ∃ d, ds[i]? = some d ∧ R K H d v
  | [], vs, i, v, h, e => by
    rw [show vs = [] from h] at e
    simp at e
  | d :: ds, vs, 0, v, h, e => by
    obtain ⟨w, r, e1, h1, h2⟩ := h
    subst e1
    simp at e
    subst e
    exact ⟨d, rfl, h1⟩
  | d :: ds, vs, i + 1, v, h, e => by
    obtain ⟨w, r, e1, h1, h2⟩ := h
    subst e1
    simp at e
    simpa using RA.get h2 e
theorem RA.get' : ∀ {ds : List D} {vs : List V} {i : Nat} {d : D}, RA K H ds vs → ds[i]? = some d → ∃ v, vs[i]? = some v ∧ R K H d v
  | [], vs, i, d, h, e => by simp at e
  | c :: ds, vs, 0, d, h, e => by
    obtain ⟨w, r, e1, h1, h2⟩ := h
    subst e1
    simp at e
    subst e
    exact ⟨w, rfl, h1⟩
  | c :: ds, vs, i + 1, d, h, e => by
    obtain ⟨w, r, e1, h1, h2⟩ := h
    subst e1
    simp at e
    simpa using RA.get' h2 e
theorem RA.snoc : ∀ {ds : List D} {vs : List V} {d : D} {v : V}, RA K H ds vs → R K H d v → RA K H (ds ++ [d]) (vs ++ [v])
  | [], vs, d, v, h, hd => by
    rw [show vs = [] from h]
    exact ⟨v, [], rfl, hd, rfl⟩
  | c :: ds, vs, d, v, h, hd => by
    obtain ⟨w, r, e1, h1, h2⟩ := h
    subst e1
    exact ⟨w, r ++ [v], rfl, h1, RA.snoc h2 hd⟩
theorem RA.app : ∀ {ds es : List D} {vs us : List V}, RA K H ds vs → RA K H es us → RA K H (ds ++ es) (vs ++ us)
  | [], es, vs, us, h, hd => by
    rw [show vs = [] from h]
    exact hd
  | c :: ds, es, vs, us, h, hd => by
    obtain ⟨w, r, e1, h1, h2⟩ := h
    subst e1
    exact ⟨w, r ++ us, rfl, h1, RA.app h2 hd⟩
theorem RA.set : ∀ {ds : List D} {vs : List V} {d : D} {v : V} (j : Nat), RA K H ds vs → R K H d v → RA K H (ds.set j d) (vs.set j v)
  | [], vs, d, v, j, h, hd => by
    rw [show vs = [] from h]
    exact rfl
  | c :: ds, vs, d, v, 0, h, hd => by
    obtain ⟨w, r, e1, h1, h2⟩ := h
    subst e1
    exact ⟨v, r, rfl, hd, h2⟩
  | c :: ds, vs, d, v, j + 1, h, hd => by
    obtain ⟨w, r, e1, h1, h2⟩ := h
    subst e1
    exact ⟨w, r.set j v, rfl, h1, RA.set j h2 hd⟩
theorem RA.drop : ∀ {ds : List D} {vs : List V} (n : Nat), RA K H ds vs → RA K H (ds.drop n) (vs.drop n)
  | ds, vs, 0, h => h
  | [], vs, n + 1, h => by
    rw [show vs = [] from h]
    exact rfl
  | c :: ds, vs, n + 1, h => by
    obtain ⟨w, r, e1, h1, h2⟩ := h
    subst e1
    exact RA.drop n h2
theorem RA.take : ∀ {ds : List D} {vs : List V} (n : Nat), RA K H ds vs → RA K H (ds.take n) (vs.take n)
  | ds, vs, 0, h => rfl
  | [], vs, n + 1, h => by
    rw [show vs = [] from h]
    exact rfl
  | c :: ds, vs, n + 1, h => by
    obtain ⟨w, r, e1, h1, h2⟩ := h
    subst e1
    exact ⟨w, r.take n, rfl, h1, RA.take n h2⟩
theorem RA.eraseIdx : ∀ {ds : List D} {vs : List V} (n : Nat), RA K H ds vs → RA K H (ds.eraseIdx n) (vs.eraseIdx n)
  | [], vs, n, h => by
    rw [show vs = [] from h]
    exact rfl
  | c :: ds, vs, 0, h => by
    obtain ⟨w, r, e1, h1, h2⟩ := h
    subst e1
    exact h2
  | c :: ds, vs, n + 1, h => by
    obtain ⟨w, r, e1, h1, h2⟩ := h
    subst e1
    exact ⟨w, r.eraseIdx n, rfl, h1, RA.eraseIdx n h2⟩
theorem RA.ints : ∀ {ns : List Int} {vs : List V}, RA K H (ns.map D.int) vs → vs = ns.map V.int
  | [], vs, h => h
  | c :: ds, vs, h => by
    obtain ⟨w, r, e1, h1, h2⟩ := h
    subst e1
    rw [show w = V.int c from h1, RA.ints h2]
    rfl
theorem RA.strs : ∀ {ns : List Str} {vs : List V}, RA K H (ns.map D.str) vs → vs = ns.map V.str
  | [], vs, h => h
  | c :: ds, vs, h => by
    obtain ⟨w, r, e1, h1, h2⟩ := h
    subst e1
    rw [show w = V.str c from h1, RA.strs h2]
    rfl
theorem RA.bls : ∀ {ns : List Bool} {vs : List V}, RA K H (ns.map D.bl) vs → vs = ns.map V.bl
  | [], vs, h => h
  | c :: ds, vs, h => by
    obtain ⟨w, r, e1, h1, h2⟩ := h
    subst e1
    rw [show w = V.bl c from h1, RA.bls h2]
    rfl
theorem RA.ints' : ∀ (ns : List Int), RA K H (ns.map D.int) (ns.map V.int)
  | [] => rfl
  | c :: ds => ⟨_, _, rfl, rfl, RA.ints' ds⟩
theorem RA.strs' : ∀ (ns : List Str), RA K H (ns.map D.str) (ns.map V.str)
  | [] => rfl
  | c :: ds => ⟨_, _, rfl, rfl, RA.strs' ds⟩
end

/-! ### what may not be leant on -/
/-- the heap without the addresses M -/
def but (H : Hp) (M : List Addr) : Hp := fun a => if a ∈ M then none else H a
theorem but_some {H : Hp} {M : List Addr} {a : Addr} {o : HO} (h : but H M a = some o) : a ∉ M ∧ H a = some o := by
  unfold but at h
  by_cases q : a ∈ M
  · rw [if_pos q] at h; cases h
  · rw [if_neg q] at h; exact ⟨q, h⟩
theorem but_of {H : Hp} {M : List Addr} {a : Addr} {o : HO} (q : a ∉ M) (h : H a = some o) : but H M a = some o := by
  unfold but
  rw [if_neg q]
  exact h
theorem but_nil {H : Hp} : but H [] = H := by
  funext a
  unfold but
  rw [if_neg (by simp)]
theorem but_le {H : Hp} {M N : List Addr} (h : ∀ a, a ∈ M → a ∈ N) : Grow (but H N) (but H M) := fun a o e => by
  obtain ⟨h1, h2⟩ := but_some e
  exact but_of (fun z => h1 (h a z)) h2

/-- only objects of S may have changed -/
def Ex (S : List Addr) (H H' : Hp) : Prop := ∀ a o, H a = some o → a ∉ S → H' a = some o
theorem Ex.refl {S : List Addr} (H : Hp) : Ex S H H := fun _ _ h _ => h
theorem Ex.trans {S : List Addr} {H H1 H2 : Hp} (a : Ex S H H1) (b : Ex S H1 H2) : Ex S H H2 := fun x o h n => b x o (a x o h n) n
theorem Ex.wide {S T : List Addr} {H H1 : Hp} (a : Ex S H H1) (h : ∀ x, x ∈ S → x ∈ T) : Ex T H H1 := fun x o e n => a x o e fun z => n (h x z)
theorem Ex.of {S : List Addr} {H H1 : Hp} (a : Grow H H1) : Ex S H H1 := fun x o e _ => a x o e
theorem Ex.new {S : List Addr} {H : Hp} {p : Addr} {o : HO} (h : H p = none) : Ex S H (upd H p o) := fun a u e _ => by
  rw [upd_ne (ne_of_none e h)]
  exact e
theorem Grow.new {H : Hp} {p : Addr} {o : HO} (h : H p = none) : Grow H (upd H p o) := fun a u e => by
  rw [upd_ne (ne_of_none e h)]
  exact e
theorem Ex.but {S M : List Addr} {H H' : Hp} (e : Ex S H H') (h : ∀ a, a ∈ S → a ∈ M) : Grow (but H M) (but H' M) := fun a o q => by
  obtain ⟨h1, h2⟩ := but_some q
  exact but_of h1 (e a o h2 fun z => h1 (h a z))
theorem Ex.live {S : List Addr} {H H' : Hp} (e : Ex S H H') {a : Addr} (h : H a ≠ none) (n : a ∉ S) : H' a ≠ none := by
  cases q : H a with
  | none => exact absurd q h
  | some o => rw [e a o q n]; intro z; cases z

/-- the bag of a law: a list [script, place, left, mixed, count] at b, the script's list at a -/
def BagAt (M : List Addr) (H : Hp) (p : Addr × Addr) : Prop := ∃ (ns : List Int) (i1 i2 i3 i4 : Int),
  H p.1 = some (.lst [.ref p.2, .int i1, .int i2, .int i3, .int i4]) ∧ but H M p.2 = some (.lst (ns.map V.int)) ∧ ns.length ≤ 63 ∧ 0 ≤ i1 ∧ i1 ≤ (ns.length : Int) ∧ 0 ≤ i2 ∧ 0 ≤ i3 ∧ i3 < 4294967296 ∧ 0 ≤ i4

/-- the frame of a call: what may not be leant on (M), what may change (S), what stays true of M (I); the bag, if there is one -/
structure Fm where
  M : List Addr
  S : List Addr
  I : Hp → Prop
  bag : Option (Addr × Addr)
  sub : ∀ a, a ∈ S → a ∈ M
  st : ∀ H H', Grow H H' → I H → I H'
  liv : ∀ H, I H → ∀ a, a ∈ M → H a ≠ none
  bS : ∀ b, bag = some b → b.1 ∈ S
  bI : ∀ b, bag = some b → ∀ H, I H → BagAt M H b
  bP : ∀ b, bag = some b → ∀ H H', I H → (∀ a o, H a = some o → a ≠ b.1 → H' a = some o) → BagAt M H' b → I H'
  mu : ∀ H H' p, I H → (∀ a o, H a = some o → a ≠ p → H' a = some o) → p ∉ M → (∀ b, bag = some b → p ≠ b.2) → I H'

theorem BagAt.grow {M : List Addr} {H H' : Hp} {b : Addr × Addr} (g : Grow H H') (h : BagAt M H b) : BagAt M H' b := by
  obtain ⟨ns, i1, i2, i3, i4, h1, h2, h3⟩ := h
  obtain ⟨q1, q2⟩ := but_some h2
  exact ⟨ns, i1, i2, i3, i4, g _ _ h1, but_of q1 (g _ _ q2), h3⟩
theorem BagAt.narrow {M O : List Addr} {H : Hp} {b : Addr × Addr} (h : BagAt (M ++ O) H b) : BagAt M H b := by
  obtain ⟨ns, i1, i2, i3, i4, h1, h2, h3⟩ := h
  exact ⟨ns, i1, i2, i3, i4, h1, but_le (fun x z => List.mem_append_left _ z) _ _ h2, h3⟩
theorem BagAt.wide {M O : List Addr} {H : Hp} {b : Addr × Addr} (h : BagAt M H b) (n : b.2 ∉ O) : BagAt (M ++ O) H b := by
  obtain ⟨ns, i1, i2, i3, i4, h1, h2, h3⟩ := h
  obtain ⟨q1, q2⟩ := but_some h2
  exact ⟨ns, i1, i2, i3, i4, h1, but_of (fun z => (List.mem_append.mp z).elim q1 n) q2, h3⟩
theorem Grow.live {H H' : Hp} (g : Grow H H') {a : Addr} (h : H a ≠ none) : H' a ≠ none := by
  cases q : H a with
  | none => exact absurd q h
  | some o => rw [g a o q]; intro z; cases z

/-- no bag, nothing may change -/
def Fm.pure : Fm where
  M := []
  S := []
  I := fun _ => True
  bag := none
  sub := fun a h => by simp at h
  st := fun _ _ _ h => h
  liv := fun _ _ a h => by simp at h
  bS := fun b h => by cases h
  bI := fun b h => by cases h
  bP := fun b h => by cases h
  mu := fun _ _ _ h _ _ _ => h
/-- a law's own frame, behind the making of its bag -/
def Fm.law (b : Addr × Addr) : Fm where
  M := [b.1]
  S := [b.1]
  I := fun H => BagAt [b.1] H b
  bag := some b
  sub := fun a h => h
  st := fun _ _ g h => h.grow g
  liv := fun H h a ha => by
    obtain ⟨ns, i1, i2, i3, i4, h1, _⟩ := h
    rw [List.mem_singleton.mp ha, h1]
    intro z; cases z
  bS := fun b' h => by cases h; exact List.mem_singleton.mpr rfl
  bI := fun b' h H i => by cases h; exact i
  bP := fun b' h H H' i k z => by cases h; exact z
  mu := fun H H' p i k n m => by
    obtain ⟨ns, i1, i2, i3, i4, h1, h2, h3⟩ := i
    obtain ⟨q1, q2⟩ := but_some h2
    exact ⟨ns, i1, i2, i3, i4, k _ _ h1 fun e => n (List.mem_singleton.mpr e.symm), but_of q1 (k _ _ q2 fun e => m b rfl e.symm), h3⟩
/-- own lists (O) are left out, too -/
def Fm.wide (c : Fm) (O : List Addr) (hb : ∀ b, c.bag = some b → b.2 ∉ O ∧ b.1 ∉ O) : Fm where
  M := c.M ++ O
  S := c.S
  I := fun H => c.I H ∧ ∀ a, a ∈ O → H a ≠ none
  bag := c.bag
  sub := fun a h => List.mem_append_left _ (c.sub a h)
  st := fun H H' g h => ⟨c.st H H' g h.1, fun a ha => g.live (h.2 a ha)⟩
  liv := fun H h a ha => (List.mem_append.mp ha).elim (fun z => c.liv H h.1 a z) (fun z => h.2 a z)
  bS := c.bS
  bI := fun b e H h => (c.bI b e H h.1).wide (hb b e).1
  bP := fun b e H H' h k z => ⟨c.bP b e H H' h.1 k z.narrow, fun a ha => by
    cases q : H a with
    | none => exact absurd q (h.2 a ha)
    | some o =>
      rw [k a o q (fun e2 => (hb b e).2 (e2 ▸ ha))]
      intro z; cases z⟩
  mu := fun H H' p h k n m => ⟨c.mu H H' p h.1 k (fun z => n (List.mem_append_left _ z)) m, fun a ha => by
    cases q : H a with
    | none => exact absurd q (h.2 a ha)
    | some o =>
      rw [k a o q (fun e2 => n (List.mem_append_right _ (e2 ▸ ha)))]
      intro z; cases z⟩
end QD

/-! QD2: the slots by data, readings by data: SimE, SimT, SimA, SimS and the first rules. -/
namespace QD
open PySem L2

inductive Ent where | val (d : D) | own (ds : List D)
deriving Inhabited
abbrev DEnv := List (Option Ent)

structure Rep (K : PySem.W.Frag) (c : Fm) (H0 : Hp) (O : List Addr) (H : Hp) (σ : St) (ρ : DEnv) : Prop where
  inv0 : c.I H0
  inv : c.I H
  ent : Ex c.S H0 H
  fresh : ∀ a, a ∈ O → H0 a = none
  liv : ∀ a, a ∈ O → H a ≠ none
  len : σ.length = ρ.length
  val : ∀ (i : Nat) (d : D), ρ[i]? = some (some (Ent.val d)) → ∃ v, σ[i]? = some (some v) ∧ R K (but H (c.M ++ O)) d v
  own : ∀ (i : Nat) (ds : List D), ρ[i]? = some (some (Ent.own ds)) → ∃ p xs, σ[i]? = some (some (.ref p)) ∧ p ∈ O ∧ H p = some (.lst xs) ∧ RA K (but H (c.M ++ O)) ds xs
  sep : ∀ (i j : Nat) (ds es : List D) (p : Addr), ρ[i]? = some (some (Ent.own ds)) → ρ[j]? = some (some (Ent.own es)) → σ[i]? = some (some (.ref p)) → σ[j]? = some (some (.ref p)) → i = j

section
variable {K : PySem.W.Frag} {c : Fm} {H0 : Hp} {O : List Addr} {H H' : Hp} {σ : St} {ρ : DEnv}
theorem Rep.notM (r : Rep K c H0 O H σ ρ) {a : Addr} (h : a ∈ O) : a ∉ c.M := fun z => c.liv H0 r.inv0 a z (r.fresh a h)
theorem Rep.notS (r : Rep K c H0 O H σ ρ) {a : Addr} (h : a ∈ O) : a ∉ c.S := fun z => r.notM h (c.sub a z)
theorem Rep.bagO (r : Rep K c H0 O H σ ρ) : ∀ b, c.bag = some b → b.2 ∉ O ∧ b.1 ∉ O := fun b e => by
  obtain ⟨ns, i1, i2, i3, i4, h1, h2, h3⟩ := c.bI b e H0 r.inv0
  refine ⟨fun z => ?_, fun z => ?_⟩
  · have := r.fresh _ z
    rw [(but_some h2).2] at this
    cases this
  · have := r.fresh _ z
    rw [h1] at this
    cases this
theorem Rep.new (r : Rep K c H0 O H σ ρ) {p : Addr} (h : H p = none) : p ∉ c.M ++ O := fun z => (List.mem_append.mp z).elim (fun q => c.liv H r.inv p q h) (fun q => r.liv p q h)
theorem Rep.new0 (r : Rep K c H0 O H σ ρ) {p : Addr} (h : H p = none) : H0 p = none := by
  cases q : H0 p with
  | none => rfl
  | some o =>
    by_cases z : p ∈ c.S
    · exact absurd h (c.liv H r.inv p (c.sub p z))
    · rw [r.ent p o q z] at h; cases h
theorem Rep.up (r : Rep K c H0 O H σ ρ) (e : Ex c.S H H') (i : c.I H') : Rep K c H0 O H' σ ρ := by
  have g : Grow (but H (c.M ++ O)) (but H' (c.M ++ O)) := e.but fun a z => List.mem_append_left _ (c.sub a z)
  refine ⟨r.inv0, i, r.ent.trans e, r.fresh, fun a h => e.live (r.liv a h) (r.notS h), r.len, fun k d q => ?_, fun k ds q => ?_, r.sep⟩
  · obtain ⟨v, h1, h2⟩ := r.val k d q
    exact ⟨v, h1, R.grow g d v h2⟩
  · obtain ⟨p, xs, h1, h2, h3, h4⟩ := r.own k ds q
    exact ⟨p, xs, h1, h2, e _ _ h3 (r.notS h2), RA.grow g ds xs h4⟩
/-- the frame that a callee is given -/
def Rep.fm (r : Rep K c H0 O H σ ρ) : Fm := c.wide O r.bagO
end

/-- a value on the way: b tells that it may lean on an own list -/
def RB (K : PySem.W.Frag) (c : Fm) (O : List Addr) (H : Hp) (b : Bool) (d : D) (v : V) : Prop := R K (but H (if b then c.M else c.M ++ O)) d v
def RBA (K : PySem.W.Frag) (c : Fm) (O : List Addr) (H : Hp) (b : Bool) (ds : List D) (vs : List V) : Prop := RA K (but H (if b then c.M else c.M ++ O)) ds vs
section
variable {K : PySem.W.Frag} {c : Fm} {O : List Addr} {H H' : Hp} {b b' : Bool} {d : D} {v : V} {ds : List D} {vs : List V}
theorem mo_of {x : Addr} (h : x ∈ (if b then c.M else c.M ++ O)) : x ∈ c.M ++ O := by
  cases b with
  | true => exact List.mem_append_left _ h
  | false => exact h
theorem RB.up (e : Ex c.S H H') (h : RB K c O H b d v) : RB K c O H' b d v := R.grow (e.but fun a z => by
  cases b with
  | true => exact c.sub a z
  | false => exact List.mem_append_left _ (c.sub a z)) d v h
theorem RBA.up (e : Ex c.S H H') (h : RBA K c O H b ds vs) : RBA K c O H' b ds vs := RA.grow (e.but fun a z => by
  cases b with
  | true => exact c.sub a z
  | false => exact List.mem_append_left _ (c.sub a z)) ds vs h
theorem RB.or (h : RB K c O H b d v) : RB K c O H (b || b') d v := by
  cases b with
  | true => exact h
  | false =>
    cases b' with
    | true => exact R.grow (but_le fun a z => List.mem_append_left _ z) d v h
    | false => exact h
theorem RB.or' (h : RB K c O H b d v) : RB K c O H (b' || b) d v := by rw [Bool.or_comm]; exact h.or
theorem RBA.or (h : RBA K c O H b ds vs) : RBA K c O H (b || b') ds vs := by
  cases b with
  | true => exact h
  | false =>
    cases b' with
    | true => exact RA.grow (but_le fun a z => List.mem_append_left _ z) ds vs h
    | false => exact h
theorem RBA.or' (h : RBA K c O H b ds vs) : RBA K c O H (b' || b) ds vs := by rw [Bool.or_comm]; exact h.or
end

/-! ### data's transformers -/
abbrev DE := DEnv → (D → Bool → Prop) → Prop
abbrev DT := DEnv → (Bool → Prop) → Prop
abbrev DA := DEnv → (List D → Bool → Prop) → Prop
structure DEnds where
  nx : DEnv → Prop
  rt : D → Prop
  bk : DEnv → Prop := fun _ => False
  ct : DEnv → Prop := fun _ => False
abbrev DS := DEnds → DEnv → Prop
abbrev DG := D → DEnv → (DEnv → Prop) → Prop
/-- an operation on two data; on one; on a list -/
abbrev DR := D → D → (D → Prop) → Prop
abbrev DU := D → (D → Prop) → Prop
abbrev DC := List D → (D → Prop) → Prop

section
variable (K : PySem.W.Frag) (c : Fm) (H0 : Hp)
def SimE (te : TE) (de : DE) : Prop := ∀ ρ P, de ρ P → ∀ O σ H Q, Rep K c H0 O H σ ρ → (∀ v d b H', P d b → Rep K c H0 O H' σ ρ → Ex c.S H H' → RB K c O H' b d v → Q v H') → te σ H Q
def SimT (tt : TT) (dt : DT) : Prop := ∀ ρ P, dt ρ P → ∀ O σ H Q, Rep K c H0 O H σ ρ → (∀ k H', P k → Rep K c H0 O H' σ ρ → Ex c.S H H' → Q k H') → tt σ H Q
def SimA (ta : TA) (da : DA) : Prop := ∀ ρ P, da ρ P → ∀ O σ H Q, Rep K c H0 O H σ ρ → (∀ vs ds b H', P ds b → Rep K c H0 O H' σ ρ → Ex c.S H H' → RBA K c O H' b ds vs → Q vs H') → ta σ H Q
structure Real (F : Hp) (Dd : DEnds) (Dn : Ends) : Prop where
  nx : ∀ ρ O σ H, Dd.nx ρ → Rep K c H0 O H σ ρ → Grow F (but H (c.M ++ O)) → Dn.nx σ H
  rt : ∀ v d H, Dd.rt d → c.I H → Ex c.S H0 H → R K (but H c.M) d v → Dn.rt v H
  bk : ∀ ρ O σ H, Dd.bk ρ → Rep K c H0 O H σ ρ → Grow F (but H (c.M ++ O)) → Dn.bk σ H
  ct : ∀ ρ O σ H, Dd.ct ρ → Rep K c H0 O H σ ρ → Grow F (but H (c.M ++ O)) → Dn.ct σ H
def SimS (ts : TS) (ds : DS) : Prop := ∀ Dd ρ, ds Dd ρ → ∀ O σ H Dn F, Rep K c H0 O H σ ρ → Grow F (but H (c.M ++ O)) → Real K c H0 F Dd Dn → ts Dn σ H
def SimG (g : TG) (dg : DG) : Prop := ∀ x ρ P, dg x ρ P → ∀ v O σ H Q, Rep K c H0 O H σ ρ → R K (but H (c.M ++ O)) x v → (∀ ρ' σ', P ρ' → Rep K c H0 O H σ' ρ' → Q σ' H) → g v σ H Q
/-- a two-place operation by values -/
def SimR (r : R2) (dr : DR) : Prop := ∀ x y P, dr x y P → ∀ O H Q v u b σ ρ, Rep K c H0 O H σ ρ → RB K c O H b x v → RB K c O H b y u → (∀ z w H', P z → Ex c.S H H' → c.I H' → RB K c O H' b z w → Q w H') → r v u H Q
def SimU (r : V → Hp → VK → Prop) (du : DU) : Prop := ∀ x P, du x P → ∀ O H Q v b σ ρ, Rep K c H0 O H σ ρ → RB K c O H b x v → (∀ z w H', P z → Ex c.S H H' → c.I H' → RB K c O H' b z w → Q w H') → r v H Q
def SimC (r : List V → Hp → VK → Prop) (dc : DC) : Prop := ∀ xs P, dc xs P → ∀ O H Q vs b σ ρ, Rep K c H0 O H σ ρ → RBA K c O H b xs vs → (∀ z w H', P z → Ex c.S H H' → c.I H' → RB K c O H' b z w → Q w H') → r vs H Q
end

/-- flat data lean on nothing -/
def D.flat : D → Bool
  | .non | .bl _ | .int _ | .str _ | .raw _ => true
  | _ => false
theorem flat_any {K : PySem.W.Frag} {H H' : Hp} : ∀ {d : D} {v : V}, d.flat = true → R K H d v → R K H' d v
  | .non, _, _, h => h
  | .bl _, _, _, h => h
  | .int _, _, _, h => h
  | .str _, _, _, h => h
  | .raw _, _, _, h => h
  | .lst _, _, f, _ => by cases f
  | .tup _, _, f, _ => by cases f
  | .ins _ _, _, f, _ => by cases f
/-- what is left of the mark behind an operation -/
def dirt (d : D) (b : Bool) : Bool := b && !d.flat
theorem RB.dirt {K : PySem.W.Frag} {c : Fm} {O : List Addr} {H : Hp} {b : Bool} {d : D} {v : V} (h : RB K c O H b d v) : RB K c O H (dirt d b) d v := by
  cases b with
  | false => exact h
  | true =>
    by_cases f : d.flat = true
    · unfold QD.dirt
      rw [f]
      exact flat_any f h
    · unfold QD.dirt
      rw [Bool.eq_false_iff.mpr f]
      exact h

/-- a datum of one kind -/
def asBl : D → (Bool → Prop) → Prop
  | .bl k, P => P k
  | _, _ => False
def asInt : D → (Int → Prop) → Prop
  | .int k, P => P k
  | _, _ => False
def asStr : D → (Str → Prop) → Prop
  | .str k, P => P k
  | _, _ => False
def optP {α : Type} : Option α → (α → Prop) → Prop
  | some a, P => P a
  | none, _ => False
theorem optP_some {α : Type} {o : Option α} {P : α → Prop} (h : optP o P) : ∃ a, o = some a ∧ P a := by
  cases o with
  | none => exact h.elim
  | some a => exact ⟨a, rfl, h⟩
theorem asBl_congr {x y : D} {P : Bool → Prop} (h : x = y) : asBl x P = asBl y P := by rw [h]
theorem asInt_congr {x y : D} {P : Int → Prop} (h : x = y) : asInt x P = asInt y P := by rw [h]
theorem asStr_congr {x y : D} {P : Str → Prop} (h : x = y) : asStr x P = asStr y P := by rw [h]
theorem optP_congr {α : Type} {x y : Option α} {P : α → Prop} (h : x = y) : optP x P = optP y P := by rw [h]
/-- what a slot holds -/
def getE : Option (Option Ent) → (D → Bool → Prop) → Prop
  | some (some (.val d)), P => P d false
  | some (some (.own ds)), P => P (.lst ds) true
  | _, _ => False
theorem getE_congr {x y : Option (Option Ent)} {P : D → Bool → Prop} (h : x = y) : getE x P = getE y P := by rw [h]

/-! ### the rules -/
def dVar (i : Nat) : DE := fun ρ P => getE ρ[i]? P
def dC (d : D) : DE := fun _ P => P d false
def dOp (r : DR) (da db : DE) : DE := fun ρ P => da ρ fun x b => db ρ fun y b' => r x y fun z => P z (dirt z (b || b'))
def dUn (r : DU) (da : DE) : DE := fun ρ P => da ρ fun x b => r x fun z => P z (dirt z b)
def dNil : DA := fun _ P => P [] false
def dCons (da : DE) (dr : DA) : DA := fun ρ P => da ρ fun x b => dr ρ fun xs b' => P (x :: xs) (b || b')
def dCB (r : DC) (da : DA) : DE := fun ρ P => da ρ fun xs b => r xs fun z => P z (dirt z b)
def dTup (da : DA) : DE := fun ρ P => da ρ fun xs b => xs.length ≤ sizeLine ∧ P (.tup xs) b
def dLst (da : DA) : DE := fun ρ P => da ρ fun xs b => xs.length ≤ sizeLine ∧ P (.lst xs) b
def dTest (da : DE) : DT := fun ρ P => da ρ fun x _ => asBl x P
def dAnd (t u : DT) : DT := fun ρ P => t ρ fun k => if k = true then u ρ P else P false
def dOr (t u : DT) : DT := fun ρ P => t ρ fun k => if k = true then P true else u ρ P
def dNot (t : DT) : DT := fun ρ P => t ρ fun k => P (!k)
def dIfE (t : DT) (da db : DE) : DE := fun ρ P => t ρ fun k => if k = true then da ρ P else db ρ P
def dAndV (da db : DE) : DE := fun ρ P => da ρ fun x _ => asBl x fun k => if k = true then db ρ P else P (.bl false) false
def dOrV (da db : DE) : DE := fun ρ P => da ρ fun x _ => asBl x fun k => if k = true then P (.bl true) false else db ρ P
def dNotV (da : DE) : DE := fun ρ P => da ρ fun x _ => asBl x fun k => P (.bl (!k)) false
-- statements
def dNext : DS := fun Dd ρ => Dd.nx ρ
def dSeq (a b : DS) : DS := fun Dd ρ => a { Dd with nx := b Dd } ρ
def dIf (t : DT) (a b : DS) : DS := fun Dd ρ => t ρ fun k => if k = true then a Dd ρ else b Dd ρ
def dRet (e : DE) : DS := fun Dd ρ => e ρ fun d _ => Dd.rt d
def dRetN : DS := fun Dd _ => Dd.rt .non
def dBreak : DS := fun Dd ρ => Dd.bk ρ
def dCont : DS := fun Dd ρ => Dd.ct ρ
def dDrop (e : DE) : DS := fun Dd ρ => e ρ fun _ _ => Dd.nx ρ
def dAsg (e : DE) (g : DG) : DS := fun Dd ρ => e ρ fun d b => b = false ∧ g d ρ Dd.nx
def dGName (i : Nat) : DG := fun d ρ Q => Q (ρ.set i (some (Ent.val d)))
def dAug (i : Nat) (e : DE) (r : DR) : DS := fun Dd ρ => dVar i ρ fun x b => e ρ fun y b' => r x y fun z => dirt z (b || b') = false ∧ Dd.nx (ρ.set i (some (Ent.val z)))

section
variable {K : PySem.W.Frag} {c : Fm} {H0 : Hp} {ta tb te : TE} {da db de : DE} {i : Nat}
theorem sim_var : SimE K c H0 (tVar i) (dVar i) := by
  intro ρ P h O σ H Q r q
  unfold dVar getE at h
  split at h
  · rename_i d e
    obtain ⟨v, h1, h2⟩ := r.val i d e
    exact ⟨v, h1, q v d false H h r (Ex.refl H) h2⟩
  · rename_i ds e
    obtain ⟨p, xs, h1, h2, h3, h4⟩ := r.own i ds e
    refine ⟨.ref p, h1, q _ _ true H h r (Ex.refl H) ⟨p, xs, rfl, but_of (r.notM h2) h3, RA.grow (but_le fun a z => List.mem_append_left _ z) ds xs h4⟩⟩
  · exact h.elim
theorem sim_c {d : D} {v : V} (h : ∀ H, R K H d v) : SimE K c H0 (tC v) (dC d) := fun ρ P p O σ H Q r q => q v d false H p r (Ex.refl H) (h _)
theorem sim_non : SimE K c H0 (tC .non) (dC .non) := sim_c fun _ => rfl
theorem sim_bl {b : Bool} : SimE K c H0 (tC (.bl b)) (dC (.bl b)) := sim_c fun _ => rfl
theorem sim_int {k : Int} : SimE K c H0 (tC (.int k)) (dC (.int k)) := sim_c fun _ => rfl
theorem sim_str {x : Str} : SimE K c H0 (tC (.str x)) (dC (.str x)) := sim_c fun _ => rfl
theorem sim_raw {a : Addr} : SimE K c H0 (tC (.ref a)) (dC (.raw (.ref a))) := sim_c fun _ => rfl
theorem sim_ty {n : String} : SimE K c H0 (tC (.ty n)) (dC (.raw (.ty n))) := sim_c fun _ => rfl
theorem sim_op {r : R2} {dr : DR} (hr : SimR K c H0 r dr) (ha : SimE K c H0 ta da) (hb : SimE K c H0 tb db) : SimE K c H0 (tOp r ta tb) (dOp dr da db) := by
  intro ρ P h O σ H Q rp q
  refine ha ρ _ h O σ H _ rp fun v x b H1 h1 rp1 e1 rx => ?_
  refine hb ρ _ h1 O σ H1 _ rp1 fun u y b' H2 h2 rp2 e2 ry => ?_
  exact hr x y _ h2 O H2 _ v u (b || b') σ ρ rp2 (rx.up e2).or ry.or' fun z w H3 h3 e3 i3 rz => q w z _ H3 h3 (rp2.up e3 i3) ((e1.trans e2).trans e3) rz.dirt
theorem sim_un {r : V → Hp → VK → Prop} {du : DU} (hr : SimU K c H0 r du) (ha : SimE K c H0 ta da) : SimE K c H0 (tUn r ta) (dUn du da) := by
  intro ρ P h O σ H Q rp q
  refine ha ρ _ h O σ H _ rp fun v x b H1 h1 rp1 e1 rx => ?_
  exact hr x _ h1 O H1 _ v b σ ρ rp1 rx fun z w H3 h3 e3 i3 rz => q w z _ H3 h3 (rp1.up e3 i3) (e1.trans e3) rz.dirt
theorem sim_nil : SimA K c H0 tNil dNil := fun ρ P h O σ H Q rp q => q [] [] false H h rp (Ex.refl H) rfl
theorem sim_cons {tr : TA} {dr : DA} (ha : SimE K c H0 ta da) (hr : SimA K c H0 tr dr) : SimA K c H0 (tCons ta tr) (dCons da dr) := by
  intro ρ P h O σ H Q rp q
  refine ha ρ _ h O σ H _ rp fun v x b H1 h1 rp1 e1 rx => ?_
  refine hr ρ _ h1 O σ H1 _ rp1 fun vs xs b' H2 h2 rp2 e2 rxs => ?_
  exact q (v :: vs) (x :: xs) _ H2 h2 rp2 (e1.trans e2) ⟨v, vs, rfl, (rx.up e2).or, rxs.or'⟩
theorem sim_cb {r : List V → Hp → VK → Prop} {dc : DC} {t : TA} {dt : DA} (hr : SimC K c H0 r dc) (ha : SimA K c H0 t dt) : SimE K c H0 (tCB r t) (dCB dc dt) := by
  intro ρ P h O σ H Q rp q
  refine ha ρ _ h O σ H _ rp fun vs xs b H1 h1 rp1 e1 rx => ?_
  exact hr xs _ h1 O H1 _ vs b σ ρ rp1 rx fun z w H3 h3 e3 i3 rz => q w z _ H3 h3 (rp1.up e3 i3) (e1.trans e3) rz.dirt
theorem RBA.len {K : PySem.W.Frag} {c : Fm} {O : List Addr} {H : Hp} {b : Bool} {ds : List D} {vs : List V} (h : RBA K c O H b ds vs) : vs.length = ds.length := RA.length h
theorem sim_tup {t : TA} {dt : DA} (ha : SimA K c H0 t dt) : SimE K c H0 (tTup t) (dTup dt) := by
  intro ρ P h O σ H Q rp q
  refine ha ρ _ h O σ H _ rp fun vs xs b H1 h1 rp1 e1 rx => ?_
  refine ⟨by rw [rx.len]; exact h1.1, fun p hp => ?_⟩
  have hn := rp1.new hp
  have ex : Ex c.S H1 (upd H1 p (.tup vs)) := Ex.new hp
  refine q _ _ b _ h1.2 (rp1.up ex (c.st _ _ (Grow.new hp) rp1.inv)) (e1.trans ex) ⟨p, vs, rfl, .inl (.inl (but_of (fun z => hn (mo_of z)) upd_same)), rx.up ex⟩
theorem sim_lst {t : TA} {dt : DA} (ha : SimA K c H0 t dt) : SimE K c H0 (tLst t) (dLst dt) := by
  intro ρ P h O σ H Q rp q
  refine ha ρ _ h O σ H _ rp fun vs xs b H1 h1 rp1 e1 rx => ?_
  refine ⟨by rw [rx.len]; exact h1.1, fun p hp => ?_⟩
  have hn := rp1.new hp
  have ex : Ex c.S H1 (upd H1 p (.lst vs)) := Ex.new hp
  refine q _ _ b _ h1.2 (rp1.up ex (c.st _ _ (Grow.new hp) rp1.inv)) (e1.trans ex) ⟨p, vs, rfl, but_of (fun z => hn (mo_of z)) upd_same, rx.up ex⟩
theorem rb_bl {K : PySem.W.Frag} {H : Hp} {v : V} : ∀ {d : D} {P : Bool → Prop}, R K H d v → asBl d P → ∃ k, v = .bl k ∧ P k
  | .bl k, _, r, h => ⟨k, r, h⟩
  | .non, _, _, h => h.elim
  | .int _, _, _, h => h.elim
  | .str _, _, _, h => h.elim
  | .lst _, _, _, h => h.elim
  | .tup _, _, _, h => h.elim
  | .ins _ _, _, _, h => h.elim
  | .raw _, _, _, h => h.elim
theorem sim_test (ha : SimE K c H0 ta da) : SimT K c H0 (tTest ta) (dTest da) := by
  intro ρ P h O σ H Q rp q
  refine ha ρ _ h O σ H _ rp fun v x b H1 h1 rp1 e1 rx => ?_
  obtain ⟨k, e, h2⟩ := rb_bl rx h1
  exact ⟨k, e, q k H1 h2 rp1 e1⟩
theorem sim_B (ha : SimE K c H0 ta da) : SimT K c H0 (tB ta) (dTest da) := by
  intro ρ P h O σ H Q rp q
  refine ha ρ _ h O σ H _ rp fun v x b H1 h1 rp1 e1 rx => ?_
  obtain ⟨k, e, h2⟩ := rb_bl rx h1
  exact ⟨k, e, q k H1 h2 rp1 e1⟩
variable {t u : TT} {dt du : DT}
theorem sim_and (ha : SimT K c H0 t dt) (hb : SimT K c H0 u du) : SimT K c H0 (tAnd t u) (dAnd dt du) := by
  intro ρ P h O σ H Q rp q
  refine ha ρ _ h O σ H _ rp fun k H1 h1 rp1 e1 => ?_
  cases k with
  | true => exact hb ρ _ h1 O σ H1 _ rp1 fun k H2 h2 rp2 e2 => q k H2 h2 rp2 (e1.trans e2)
  | false => exact q false H1 h1 rp1 e1
theorem sim_or (ha : SimT K c H0 t dt) (hb : SimT K c H0 u du) : SimT K c H0 (tOr t u) (dOr dt du) := by
  intro ρ P h O σ H Q rp q
  refine ha ρ _ h O σ H _ rp fun k H1 h1 rp1 e1 => ?_
  cases k with
  | false => exact hb ρ _ h1 O σ H1 _ rp1 fun k H2 h2 rp2 e2 => q k H2 h2 rp2 (e1.trans e2)
  | true => exact q true H1 h1 rp1 e1
theorem sim_not (ha : SimT K c H0 t dt) : SimT K c H0 (tNot t) (dNot dt) := by
  intro ρ P h O σ H Q rp q
  exact ha ρ _ h O σ H _ rp fun k H1 h1 rp1 e1 => q (!k) H1 h1 rp1 e1
theorem sim_ifE (ht : SimT K c H0 t dt) (ha : SimE K c H0 ta da) (hb : SimE K c H0 tb db) : SimE K c H0 (tIf t ta tb) (dIfE dt da db) := by
  intro ρ P h O σ H Q rp q
  refine ht ρ _ h O σ H _ rp fun k H1 h1 rp1 e1 => ?_
  cases k with
  | true => exact ha ρ _ h1 O σ H1 _ rp1 fun v d b H2 h2 rp2 e2 => q v d b H2 h2 rp2 (e1.trans e2)
  | false => exact hb ρ _ h1 O σ H1 _ rp1 fun v d b H2 h2 rp2 e2 => q v d b H2 h2 rp2 (e1.trans e2)
theorem sim_andV (ha : SimE K c H0 ta da) (hb : SimE K c H0 tb db) : SimE K c H0 (tAndV ta tb) (dAndV da db) := by
  intro ρ P h O σ H Q rp q
  refine ha ρ _ h O σ H _ rp fun v x b H1 h1 rp1 e1 rx => ?_
  obtain ⟨k, e, h2⟩ := rb_bl rx h1
  refine ⟨k, e, ?_⟩
  cases k with
  | true => exact hb ρ _ h2 O σ H1 _ rp1 fun v d b H2 h2 rp2 e2 => q v d b H2 h2 rp2 (e1.trans e2)
  | false => exact q _ _ _ H1 h2 rp1 e1 rfl
theorem sim_orV (ha : SimE K c H0 ta da) (hb : SimE K c H0 tb db) : SimE K c H0 (tOrV ta tb) (dOrV da db) := by
  intro ρ P h O σ H Q rp q
  refine ha ρ _ h O σ H _ rp fun v x b H1 h1 rp1 e1 rx => ?_
  obtain ⟨k, e, h2⟩ := rb_bl rx h1
  refine ⟨k, e, ?_⟩
  cases k with
  | false => exact hb ρ _ h2 O σ H1 _ rp1 fun v d b H2 h2 rp2 e2 => q v d b H2 h2 rp2 (e1.trans e2)
  | true => exact q _ _ _ H1 h2 rp1 e1 rfl
theorem sim_notV (ha : SimE K c H0 ta da) : SimE K c H0 (tNotV ta) (dNotV da) := by
  intro ρ P h O σ H Q rp q
  refine ha ρ _ h O σ H _ rp fun v x b H1 h1 rp1 e1 rx => ?_
  obtain ⟨k, e, h2⟩ := rb_bl rx h1
  exact ⟨k, e, q _ _ _ H1 h2 rp1 e1 rfl⟩

/-! statements -/
theorem Grow.trans {H H1 H2 : Hp} (a : Grow H H1) (b : Grow H1 H2) : Grow H H2 := fun x o e => b x o (a x o e)
theorem Grow.refl (H : Hp) : Grow H H := fun _ _ e => e
theorem Grow.ex {F H H1 : Hp} {O : List Addr} (g : Grow F (but H (c.M ++ O))) (e : Ex c.S H H1) : Grow F (but H1 (c.M ++ O)) := g.trans (e.but fun a z => List.mem_append_left _ (c.sub a z))
variable {ts us : TS} {ds ds' : DS}
theorem sim_next : SimS K c H0 tNext dNext := fun Dd ρ h O σ H Dn F rp g R => R.nx ρ O σ H h rp g
theorem sim_seq (ha : SimS K c H0 ts ds) (hb : SimS K c H0 us ds') : SimS K c H0 (tSeq ts us) (dSeq ds ds') := by
  intro Dd ρ h O σ H Dn F rp g R
  exact ha _ ρ h O σ H _ F rp g ⟨fun ρ' O' σ' H' h' rp' g' => hb Dd ρ' h' O' σ' H' Dn F rp' g' R, R.rt, R.bk, R.ct⟩
theorem sim_ifS (ht : SimT K c H0 t dt) (ha : SimS K c H0 ts ds) (hb : SimS K c H0 us ds') : SimS K c H0 (tIfS t ts us) (dIf dt ds ds') := by
  intro Dd ρ h O σ H Dn F rp g R
  refine ht ρ _ h O σ H _ rp fun k H1 h1 rp1 e1 => ?_
  cases k with
  | true => exact ha Dd ρ h1 O σ H1 Dn F rp1 (g.ex e1) R
  | false => exact hb Dd ρ h1 O σ H1 Dn F rp1 (g.ex e1) R
theorem sim_ret (ha : SimE K c H0 ta da) : SimS K c H0 (tRet ta) (dRet da) := by
  intro Dd ρ h O σ H Dn F rp g R
  refine ha ρ _ h O σ H _ rp fun v d b H1 h1 rp1 e1 rv => ?_
  refine R.rt v d H1 h1 rp1.inv rp1.ent ?_
  cases b with
  | true => exact rv
  | false => exact QD.R.grow (but_le fun a z => List.mem_append_left _ z) d v rv
theorem sim_retN : SimS K c H0 tRetN dRetN := fun Dd ρ h O σ H Dn F rp g R => R.rt .non .non H h rp.inv rp.ent rfl
theorem sim_break : SimS K c H0 tBreak dBreak := fun Dd ρ h O σ H Dn F rp g R => R.bk ρ O σ H h rp g
theorem sim_cont : SimS K c H0 tCont dCont := fun Dd ρ h O σ H Dn F rp g R => R.ct ρ O σ H h rp g
theorem sim_drop (ha : SimE K c H0 ta da) : SimS K c H0 (tDrop ta) (dDrop da) := by
  intro Dd ρ h O σ H Dn F rp g R
  exact ha ρ _ h O σ H _ rp fun v d b H1 h1 rp1 e1 rv => R.nx ρ O σ H1 h1 rp1 (g.ex e1)
theorem Rep.setVal {O : List Addr} {H : Hp} {σ : St} {ρ : DEnv} (r : Rep K c H0 O H σ ρ) (i : Nat) {d : D} {v : V} (h : R K (but H (c.M ++ O)) d v) : Rep K c H0 O H (σ.set i (some v)) (ρ.set i (some (Ent.val d))) := by
  refine ⟨r.inv0, r.inv, r.ent, r.fresh, r.liv, by rw [List.length_set, List.length_set]; exact r.len, fun k e q => ?_, fun k ds q => ?_, fun k j ds es p q1 q2 z1 z2 => ?_⟩
  · by_cases hk : i = k
    · subst hk
      have hl : i < ρ.length := by
        have := (List.getElem?_eq_some_iff.mp q).1
        rwa [List.length_set] at this
      rw [List.getElem?_set_self hl] at q
      cases q
      exact ⟨v, List.getElem?_set_self (by rw [r.len]; exact hl), h⟩
    · rw [List.getElem?_set_ne hk] at q
      obtain ⟨u, h1, h2⟩ := r.val k e q
      exact ⟨u, by rw [List.getElem?_set_ne hk]; exact h1, h2⟩
  · have hk : ¬ i = k := fun hk => by
      subst hk
      have hl : i < ρ.length := by
        have := (List.getElem?_eq_some_iff.mp q).1
        rwa [List.length_set] at this
      rw [List.getElem?_set_self hl] at q
      cases q
    rw [List.getElem?_set_ne hk] at q
    obtain ⟨p, xs, h1, h2⟩ := r.own k ds q
    exact ⟨p, xs, by rw [List.getElem?_set_ne hk]; exact h1, h2⟩
  · have no : ∀ (k : Nat) (es : List D), (ρ.set i (some (Ent.val d)))[k]? = some (some (Ent.own es)) → ¬ i = k := fun k es q hk => by
      subst hk
      have hl : i < ρ.length := by
        have := (List.getElem?_eq_some_iff.mp q).1
        rwa [List.length_set] at this
      rw [List.getElem?_set_self hl] at q
      cases q
    have n1 := no _ _ q1
    have n2 := no _ _ q2
    rw [List.getElem?_set_ne n1] at q1 z1
    rw [List.getElem?_set_ne n2] at q2 z2
    exact r.sep k j ds es p q1 q2 z1 z2
theorem sim_gname : SimG K c H0 (gName i) (dGName i) := fun x ρ P h v O σ H Q rp rv q => q _ _ h (rp.setVal i rv)
theorem sim_asg {g : TG} {dg : DG} (ha : SimE K c H0 ta da) (hg : SimG K c H0 g dg) : SimS K c H0 (tAsg ta g) (dAsg da dg) := by
  intro Dd ρ h O σ H Dn F rp g R
  refine ha ρ _ h O σ H _ rp fun v d b H1 h1 rp1 e1 rv => ?_
  obtain ⟨hb, h2⟩ := h1
  subst hb
  exact hg d ρ _ h2 v O σ H1 _ rp1 rv fun ρ' σ' h3 rp3 => R.nx ρ' O σ' H1 h3 rp3 (g.ex e1)
end
end QD

/-! QD3: operators, built-ins by data. -/
namespace QD
open PySem L2

def rOr (r s : R2) : R2 := fun x y H Q => r x y H Q ∨ s x y H Q
theorem opr_or {X : Cx} {f : Value → Value → Sem Value} {r s : R2} (h1 : OpR X f r) (h2 : OpR X f s) : OpR X f (rOr r s) := by
  intro pins st σ H x y v u Q I rx ry h
  rcases h with h | h
  · exact h1 pins st σ H x y v u Q I rx ry h
  · exact h2 pins st σ H x y v u Q I rx ry h
def cOr (r s : List V → Hp → VK → Prop) : List V → Hp → VK → Prop := fun x H Q => r x H Q ∨ s x H Q
theorem callr_or {X : Cx} {f : Value} {r s : List V → Hp → VK → Prop} (h1 : CallR X f r) (h2 : CallR X f s) : CallR X f (cOr r s) := by
  intro pins st σ H xs us Q I rx h
  rcases h with h | h
  · exact h1 pins st σ H xs us Q I rx h
  · exact h2 pins st σ H xs us Q I rx h

/-! ### text * int -/
def rMulS : R2 := fun x y H Q => ∃ z n, x = .str z ∧ y = .int n ∧ MulOk z n ∧ Q (.str (Txt.mul z n)) H
theorem op_mulS {X : Cx} : OpR X (binaryOp .Mult) rMulS := by
  intro pins s σ H x y v u Q I rx ry h
  obtain ⟨z, n, rfl, rfl, ok, q⟩ := h
  obtain ⟨t, rfl⟩ := rx
  obtain ⟨t', rfl⟩ := ry
  exact SB.mul ok fun t2 k => ⟨.str _, H, I.tok k, ⟨_, rfl⟩, q⟩

def rAddS : R2 := fun x y H Q => ∃ i j, x = .str i ∧ y = .str j ∧ i.length + j.length ≤ sizeLine ∧ Q (.str (i ++ j)) H
def rAddI : R2 := rI0 fun i j => .int (i + j)
def gAdd : R2 := rOr rAddI (rOr rAddS rCat)
theorem q_add {X : Cx} : OpR X (binaryOp .Add) gAdd := opr_or op_add (opr_or op_add_str op_cat)
def rMulI : R2 := rI CMul fun i j => .int (i * j)
def gMul : R2 := rOr rMulI (rOr rMulS rRep)
theorem q_mul {X : Cx} : OpR X (binaryOp .Mult) gMul := opr_or op_mul (opr_or op_mulS op_rep)
def gMinus : R2 := rI0 fun i j => .int (i - j)
theorem q_sub {X : Cx} : OpR X (binaryOp .Sub) gMinus := op_sub
def gMod : R2 := rI (fun _ j => 0 < j) fun i j => .int (i % j)
theorem q_mod {X : Cx} : OpR X (binaryOp .Mod) gMod := op_mod
def gFdiv : R2 := rI CDiv fun i j => .int (i / j)
theorem q_fdiv {X : Cx} : OpR X (binaryOp .FloorDiv) gFdiv := op_fdiv
def gLt : R2 := rI0 fun i j => .bl (decide (i < j))
def gLe : R2 := rI0 fun i j => .bl (decide (i ≤ j))
def gGt : R2 := rI0 fun i j => .bl (decide (i > j))
def gGe : R2 := rI0 fun i j => .bl (decide (i ≥ j))
theorem q_lt {X : Cx} : OpR X (compareOp .Lt) gLt := op_lt
theorem q_le {X : Cx} : OpR X (compareOp .LtE) gLe := op_le
theorem q_gt {X : Cx} : OpR X (compareOp .Gt) gGt := op_gt
theorem q_ge {X : Cx} : OpR X (compareOp .GtE) gGe := op_ge
def gIs : R2 := fun x y H Q => y = .non ∧ Q (.bl (decide (x = .non))) H
def gIsNot : R2 := fun x y H Q => y = .non ∧ Q (.bl (!decide (x = .non))) H
theorem q_is {X : Cx} : OpR X (compareOp .Is) gIs := op_isN
theorem q_isnot {X : Cx} : OpR X (compareOp .IsNot) gIsNot := op_notN
def gEq (K : PySem.W.Frag) : R2 := rEqD K
def gNe (K : PySem.W.Frag) : R2 := rNeD K
theorem q_eq {X : Cx} (hu : X.A.units + 64 < cLine) : OpR X (compareOp .Eq) (gEq X.K) := op_eqD hu
theorem q_ne {X : Cx} (hu : X.A.units + 64 < cLine) : OpR X (compareOp .NotEq) (gNe X.K) := op_neD hu
def gInC : R2 := fun x y H Q => ∃ (c : Nat) (z : Str), x = .str ⟨#[c]⟩ ∧ y = .str z ∧ Q (.bl (decide (c ∈ z.cps.toList))) H
def gIn (K : PySem.W.Frag) : R2 := rOr gInC (rIn K false)
def gNotInC : R2 := fun x y H Q => ∃ (c : Nat) (z : Str), x = .str ⟨#[c]⟩ ∧ y = .str z ∧ Q (.bl (!decide (c ∈ z.cps.toList))) H
def gNotIn (K : PySem.W.Frag) : R2 := rOr gNotInC (rIn K true)
theorem q_in {X : Cx} : OpR X (compareOp .In) (gIn X.K) := opr_or op_in_sign op_in_seq
theorem q_notin {X : Cx} : OpR X (compareOp .NotIn) (gNotIn X.K) := opr_or op_notIn_sign op_notIn_seq
theorem hu64 {A : Around} {k : Nat} (hr : Room k A) : A.units + 64 < cLine := hr.units

/-! ### data -/
mutual
def toPy : D → Option PyData
  | .non => some .none
  | .bl b => some (.bool b)
  | .int i => some (.int i)
  | .str x => some (.str x)
  | .lst ds => (toPys ds).map .list
  | .tup ds => (toPys ds).map .tuple
  | .ins _ _ => none
  | .raw _ => none
def toPys : List D → Option (List PyData)
  | [] => some []
  | d :: ds => match toPy d, toPys ds with
    | some x, some xs => some (x :: xs)
    | _, _ => none
end
section
variable {K : PySem.W.Frag} {H : Hp}
mutual
theorem R.dp : ∀ (d : D) (v : V) (p : PyData), toPy d = some p → R K H d v → Dp K H v p
  | .non, v, p, e, h => by
    cases e
    rw [show v = .non from h]
    exact .non
  | .bl b, v, p, e, h => by
    cases e
    rw [show v = .bl b from h]
    exact .bl b
  | .int b, v, p, e, h => by
    cases e
    rw [show v = .int b from h]
    exact .int b
  | .str b, v, p, e, h => by
    cases e
    rw [show v = .str b from h]
    exact .str b
  | .lst ds, v, p, e, h => by
    obtain ⟨a, xs, rfl, h1, h2⟩ := h
    simp only [toPy] at e
    obtain ⟨ps, e1, rfl⟩ := Option.map_eq_some_iff.mp e
    exact .lst (.inl (.inl h1)) (RA.dp ds xs ps e1 h2)
  | .tup ds, v, p, e, h => by
    obtain ⟨a, xs, rfl, h1, h2⟩ := h
    simp only [toPy] at e
    obtain ⟨ps, e1, rfl⟩ := Option.map_eq_some_iff.mp e
    exact .tup h1 (RA.dp ds xs ps e1 h2)
  | .ins _ _, v, p, e, h => by simp [toPy] at e
  | .raw _, v, p, e, h => by simp [toPy] at e
theorem RA.dp : ∀ (ds : List D) (vs : List V) (ps : List PyData), toPys ds = some ps → RA K H ds vs → DpAll K H vs ps
  | [], vs, ps, e, h => by
    cases e
    rw [show vs = [] from h]
    exact .nil
  | d :: ds, vs, ps, e, h => by
    obtain ⟨v, r, rfl, h1, h2⟩ := h
    simp only [toPys] at e
    cases e1 : toPy d with
    | none => rw [e1] at e; cases e
    | some x =>
      cases e2 : toPys ds with
      | none => rw [e1, e2] at e; cases e
      | some xs =>
        rw [e1, e2] at e
        cases e
        exact .cons (R.dp d v x e1 h1) (RA.dp ds r xs e2 h2)
end
end
theorem but_grow {H : Hp} {M : List Addr} : Grow (but H M) H := fun a o e => (but_some e).2
theorem RB.here {K : PySem.W.Frag} {c : Fm} {O : List Addr} {H : Hp} {b : Bool} {d : D} {v : V} (h : RB K c O H b d v) : R K H d v := R.grow but_grow d v h
theorem RBA.here {K : PySem.W.Frag} {c : Fm} {O : List Addr} {H : Hp} {b : Bool} {d : List D} {v : List V} (h : RBA K c O H b d v) : RA K H d v := RA.grow but_grow d v h

def dEq : DR := fun x y P => match toPy x, toPy y with
  | some p, some q => (SeqAt.shaped p = true ∧ SeqAt.shaped q = true) ∧ P (.bl (PyData.eqv p q))
  | _, _ => False
def dNe : DR := fun x y P => match toPy x, toPy y with
  | some p, some q => (SeqAt.shaped p = true ∧ SeqAt.shaped q = true) ∧ P (.bl (!PyData.eqv p q))
  | _, _ => False
def dII (f : Int → Int → D) : DR
  | .int i, .int j, P => P (f i j)
  | _, _, _ => False
def dIC (C : Int → Int → Prop) (f : Int → Int → D) : DR
  | .int i, .int j, P => C i j ∧ P (f i j)
  | _, _, _ => False
def dAdd : DR
  | .int i, .int j, P => P (.int (i + j))
  | .str a, .str b, P => a.length + b.length ≤ sizeLine ∧ P (.str (a ++ b))
  | .lst a, .lst b, P => a.length + b.length ≤ sizeLine ∧ P (.lst (a ++ b))
  | _, _, _ => False
def dMul : DR
  | .int i, .int j, P => CMul i j ∧ P (.int (i * j))
  | .str a, .int n, P => MulOk a n ∧ P (.str (Txt.mul a n))
  | .lst a, .int n, P => (0 ≤ n ∧ n < 2 ^ 63 ∧ a.length * n.toNat ≤ sizeLine) ∧ P (.lst (List.replicate n.toNat a).flatten)
  | _, _, _ => False
theorem dEq_congr {x y x' y' : D} {P : D → Prop} (h : x = x') (h' : y = y') : dEq x y P = dEq x' y' P := by rw [h, h']
theorem dNe_congr {x y x' y' : D} {P : D → Prop} (h : x = x') (h' : y = y') : dNe x y P = dNe x' y' P := by rw [h, h']
theorem dII_congr {f : Int → Int → D} {x y x' y' : D} {P : D → Prop} (h : x = x') (h' : y = y') : dII f x y P = dII f x' y' P := by rw [h, h']
theorem dIC_congr {C : Int → Int → Prop} {f : Int → Int → D} {x y x' y' : D} {P : D → Prop} (h : x = x') (h' : y = y') : dIC C f x y P = dIC C f x' y' P := by rw [h, h']
theorem dAdd_congr {x y x' y' : D} {P : D → Prop} (h : x = x') (h' : y = y') : dAdd x y P = dAdd x' y' P := by rw [h, h']
theorem dMul_congr {x y x' y' : D} {P : D → Prop} (h : x = x') (h' : y = y') : dMul x y P = dMul x' y' P := by rw [h, h']
abbrev dSub : DR := dII fun i j => .int (i - j)
abbrev dMod : DR := dIC (fun _ j => 0 < j) fun i j => .int (i % j)
abbrev dFdiv : DR := dIC CDiv fun i j => .int (i / j)
abbrev dLt : DR := dII fun i j => .bl (decide (i < j))
abbrev dLe : DR := dII fun i j => .bl (decide (i ≤ j))
abbrev dGt : DR := dII fun i j => .bl (decide (i > j))
abbrev dGe : DR := dII fun i j => .bl (decide (i ≥ j))
def D.isNon : D → Option Bool
  | .non => some true
  | .raw _ => none
  | _ => some false
def dIs : DR
  | x, .non, P => optP x.isNon fun b => P (.bl b)
  | _, _, _ => False
def dIsNot : DR
  | x, .non, P => optP x.isNon fun b => P (.bl (!b))
  | _, _, _ => False
/-- flat data as flat values -/
def D.toV : D → Option V
  | .non => some .non
  | .bl b => some (.bl b)
  | .int i => some (.int i)
  | .str x => some (.str x)
  | _ => none
def toVs : List D → Option (List V)
  | [] => some []
  | d :: ds => match d.toV, toVs ds with
    | some x, some xs => some (x :: xs)
    | _, _ => none
def sign1 (s : Str) : Option Nat := match s.cps.toList with | [k] => some k | _ => none
theorem sign1_eq {s : Str} {k : Nat} (h : sign1 s = some k) : s = ⟨#[k]⟩ := by
  unfold sign1 at h
  split at h
  · rename_i e
    cases h
    obtain ⟨⟨l⟩⟩ := s
    rw [show l = [k] from e]
  · cases h
def D.sign : D → Option Nat
  | .str s => sign1 s
  | _ => none
theorem sign_of {K : PySem.W.Frag} {H : Hp} : ∀ {d : D} {v : V} {k : Nat}, d.sign = some k → R K H d v → v = .str ⟨#[k]⟩
  | .str s, v, k, e, r => by rw [← sign1_eq e]; exact r
  | .non, _, _, e, _ => by cases e
  | .bl _, _, _, e, _ => by cases e
  | .int _, _, _, e, _ => by cases e
  | .lst _, _, _, e, _ => by cases e
  | .tup _, _, _, e, _ => by cases e
  | .ins _ _, _, _, e, _ => by cases e
  | .raw _, _, _, e, _ => by cases e
def inG (neg : Bool) (x : D) (ds : List D) : Option Bool := match x.toV, toVs ds with
  | some v, some vs => some (if neg then !inV v vs else inV v vs)
  | _, _ => none
def dInG (neg : Bool) : DR
  | x, .str z, P => optP x.sign fun ch => P (.bl (if neg then !decide (ch ∈ z.cps.toList) else decide (ch ∈ z.cps.toList)))
  | x, .lst ds, P => optP (inG neg x ds) fun b => P (.bl b)
  | x, .tup ds, P => optP (inG neg x ds) fun b => P (.bl b)
  | _, _, _ => False

section
variable {K : PySem.W.Frag} {c : Fm} {H0 : Hp}
theorem sr_II {f : Int → Int → D} {g : Int → Int → V} (hf : ∀ i j H, R K H (f i j) (g i j)) : SimR K c H0 (rI0 g) (dII f) := by
  intro x y P h O H Q v u b σ ρ rp rx ry q
  unfold dII at h
  split at h
  · exact ⟨_, _, rx, ry, q _ _ H h (Ex.refl H) rp.inv (hf _ _ _)⟩
  · exact h.elim
theorem sr_IC {C : Int → Int → Prop} {f : Int → Int → D} {g : Int → Int → V} (hf : ∀ i j H, R K H (f i j) (g i j)) : SimR K c H0 (rI C g) (dIC C f) := by
  intro x y P h O H Q v u b σ ρ rp rx ry q
  unfold dIC at h
  split at h
  · exact ⟨_, _, rx, ry, h.1, q _ _ H h.2 (Ex.refl H) rp.inv (hf _ _ _)⟩
  · exact h.elim
theorem sr_sub : SimR K c H0 gMinus dSub := sr_II fun _ _ _ => rfl
theorem sr_mod : SimR K c H0 gMod dMod := sr_IC fun _ _ _ => rfl
theorem sr_fdiv : SimR K c H0 gFdiv dFdiv := sr_IC fun _ _ _ => rfl
theorem sr_lt : SimR K c H0 gLt dLt := sr_II fun _ _ _ => rfl
theorem sr_le : SimR K c H0 gLe dLe := sr_II fun _ _ _ => rfl
theorem sr_gt : SimR K c H0 gGt dGt := sr_II fun _ _ _ => rfl
theorem sr_ge : SimR K c H0 gGe dGe := sr_II fun _ _ _ => rfl
theorem tracked_of {M : List Addr} {H : Hp} {a : Addr} {o : HO} (h : but H M a = some o) : H a = some o := (but_some h).2
theorem sr_new {b : Bool} {O : List Addr} {H : Hp} {σ : St} {ρ : DEnv} {ds : List D} {xs : List V} (rp : Rep K c H0 O H σ ρ) {p : Addr} (hp : H p = none) (ra : RBA K c O H b ds xs) :
    Ex c.S H (upd H p (.lst xs)) ∧ c.I (upd H p (.lst xs)) ∧ RB K c O (upd H p (.lst xs)) b (.lst ds) (.ref p) := by
  have hn := rp.new hp
  have ex : Ex c.S H (upd H p (.lst xs)) := Ex.new hp
  exact ⟨ex, c.st _ _ (Grow.new hp) rp.inv, p, xs, rfl, but_of (fun z => hn (mo_of z)) upd_same, ra.up ex⟩
theorem RA.flatten {H : Hp} {ds : List D} {xs : List V} (h : RA K H ds xs) : ∀ n : Nat, RA K H (List.replicate n ds).flatten (List.replicate n xs).flatten
  | 0 => rfl
  | n + 1 => by
    rw [List.replicate_succ, List.replicate_succ, List.flatten_cons, List.flatten_cons]
    exact h.app (RA.flatten h n)
theorem sr_add : SimR K c H0 gAdd dAdd := by
  intro x y P h O H Q v u b σ ρ rp rx ry q
  unfold dAdd at h
  split at h
  · exact .inl ⟨_, _, rx, ry, q _ _ H h (Ex.refl H) rp.inv rfl⟩
  · exact .inr (.inl ⟨_, _, rx, ry, h.1, q _ _ H h.2 (Ex.refl H) rp.inv rfl⟩)
  · obtain ⟨p, xs, e1, h1, h2⟩ := rx
    obtain ⟨p', ys, e2, h3, h4⟩ := ry
    refine .inr (.inr ⟨p, p', xs, ys, e1, e2, tracked_of h1, tracked_of h3, by rw [h2.length, h4.length]; exact h.1, fun l hl => ?_⟩)
    obtain ⟨z1, z2, z3⟩ := sr_new (b := b) rp hl (show RBA K c O H b _ (xs ++ ys) from h2.app h4)
    exact q _ _ _ h.2 z1 z2 z3
  · exact h.elim
theorem sr_mul : SimR K c H0 gMul dMul := by
  intro x y P h O H Q v u b σ ρ rp rx ry q
  unfold dMul at h
  split at h
  · exact .inl ⟨_, _, rx, ry, h.1, q _ _ H h.2 (Ex.refl H) rp.inv rfl⟩
  · exact .inr (.inl ⟨_, _, rx, ry, h.1, q _ _ H h.2 (Ex.refl H) rp.inv rfl⟩)
  · obtain ⟨p, xs, e1, h1, h2⟩ := rx
    refine .inr (.inr ⟨p, _, xs, e1, ry, tracked_of h1, by omega, h.1.2.1, by rw [h2.length]; exact h.1.2.2, fun l hl => ?_⟩)
    obtain ⟨z1, z2, z3⟩ := sr_new (b := b) rp hl (show RBA K c O H b _ _ from h2.flatten _)
    exact q _ _ _ h.2 z1 z2 z3
  · exact h.elim
theorem sr_eq : SimR K c H0 (gEq K) dEq := by
  intro x y P h O H Q v u b σ ρ rp rx ry q
  unfold dEq at h
  split at h
  · rename_i p p' e1 e2
    exact ⟨p, p', R.dp x v p e1 rx.here, R.dp y u p' e2 ry.here, h.1.1, h.1.2, q _ _ H h.2 (Ex.refl H) rp.inv rfl⟩
  · exact h.elim
theorem sr_ne : SimR K c H0 (gNe K) dNe := by
  intro x y P h O H Q v u b σ ρ rp rx ry q
  unfold dNe at h
  split at h
  · rename_i p p' e1 e2
    exact ⟨p, p', R.dp x v p e1 rx.here, R.dp y u p' e2 ry.here, h.1.1, h.1.2, q _ _ H h.2 (Ex.refl H) rp.inv rfl⟩
  · exact h.elim
theorem isNon_of {H : Hp} : ∀ {d : D} {v : V} {b : Bool}, d.isNon = some b → R K H d v → decide (v = .non) = b
  | .non, v, b, e, r => by cases e; rw [show v = .non from r]; rfl
  | .bl _, v, b, e, r => by cases e; rw [show v = .bl _ from r]; rfl
  | .int _, v, b, e, r => by cases e; rw [show v = .int _ from r]; rfl
  | .str _, v, b, e, r => by cases e; rw [show v = .str _ from r]; rfl
  | .lst _, v, b, e, r => by cases e; obtain ⟨a, _, e1, _⟩ := r; rw [e1]; rfl
  | .tup _, v, b, e, r => by cases e; obtain ⟨a, _, e1, _⟩ := r; rw [e1]; rfl
  | .ins _ _, v, b, e, r => by cases e; obtain ⟨a, _, _, e1, _⟩ := r; rw [e1]; rfl
  | .raw _, v, b, e, r => by cases e
theorem sr_is : SimR K c H0 gIs dIs := by
  intro x y P h O H Q v u b σ ρ rp rx ry q
  unfold dIs at h
  split at h
  · obtain ⟨b', e, h⟩ := optP_some h
    refine ⟨ry, ?_⟩
    rw [isNon_of e rx]
    exact q _ _ H h (Ex.refl H) rp.inv rfl
  · exact h.elim
theorem sr_isnot : SimR K c H0 gIsNot dIsNot := by
  intro x y P h O H Q v u b σ ρ rp rx ry q
  unfold dIsNot at h
  split at h
  · obtain ⟨b', e, h⟩ := optP_some h
    refine ⟨ry, ?_⟩
    rw [isNon_of e rx]
    exact q _ _ H h (Ex.refl H) rp.inv rfl
  · exact h.elim
theorem toV_of {H : Hp} : ∀ {d : D} {v w : V}, d.toV = some w → R K H d v → v = w ∧ flatV w = true
  | .non, v, w, e, r => by cases e; exact ⟨r, rfl⟩
  | .bl _, v, w, e, r => by cases e; exact ⟨r, rfl⟩
  | .int _, v, w, e, r => by cases e; exact ⟨r, rfl⟩
  | .str _, v, w, e, r => by cases e; exact ⟨r, rfl⟩
  | .lst _, v, w, e, r => by cases e
  | .tup _, v, w, e, r => by cases e
  | .ins _ _, v, w, e, r => by cases e
  | .raw _, v, w, e, r => by cases e
theorem toVs_of {H : Hp} : ∀ {ds : List D} {vs ws : List V}, toVs ds = some ws → RA K H ds vs → vs = ws ∧ ws.all flatV = true
  | [], vs, ws, e, r => by cases e; exact ⟨r, rfl⟩
  | d :: ds, vs, ws, e, r => by
    obtain ⟨v, r', rfl, h1, h2⟩ := r
    simp only [toVs] at e
    cases e1 : d.toV with
    | none => rw [e1] at e; cases e
    | some x =>
      cases e2 : toVs ds with
      | none => rw [e1, e2] at e; cases e
      | some xs =>
        rw [e1, e2] at e
        cases e
        obtain ⟨z1, z2⟩ := toV_of e1 h1
        obtain ⟨z3, z4⟩ := toVs_of e2 h2
        rw [z1, z3]
        exact ⟨rfl, by rw [List.all_cons, z2, z4]; rfl⟩
theorem sr_in0 {neg : Bool} {x : D} {ds : List D} {P : D → Prop} (h : optP (inG neg x ds) fun b => P (.bl b)) {O : List Addr} {H : Hp} {Q : VK} {v : V} {b : Bool} {σ : St} {ρ : DEnv} (rp : Rep K c H0 O H σ ρ) (rx : RB K c O H b x v) {p : Addr} {xs : List V} (hp : SqL K H p xs ∨ SqT K H p xs) (ra : RA K H ds xs)
    (q : ∀ z w H', P z → Ex c.S H H' → c.I H' → RB K c O H' b z w → Q w H') : rIn K neg v (.ref p) H Q := by
  obtain ⟨r, e, h⟩ := optP_some h
  unfold inG at e
  split at e
  · rename_i w ws e1 e2
    cases e
    obtain ⟨z1, z2⟩ := toV_of e1 rx
    obtain ⟨z3, z4⟩ := toVs_of e2 ra
    rw [z1]
    rw [z3] at hp
    exact ⟨p, ws, rfl, hp, z2, z4, q _ _ H h (Ex.refl H) rp.inv rfl⟩
  · cases e
theorem sr_in : SimR K c H0 (gIn K) (dInG false) := by
  intro x y P h O H Q v u b σ ρ rp rx ry q
  unfold dInG at h
  split at h
  · obtain ⟨ch, e, h⟩ := optP_some h
    exact .inl ⟨_, _, sign_of e rx, ry, q _ _ H h (Ex.refl H) rp.inv rfl⟩
  · obtain ⟨p, xs, rfl, h1, h2⟩ := ry.here
    exact .inr (sr_in0 (neg := false) h rp rx (.inl (.inl (.inl h1))) h2 q)
  · obtain ⟨p, xs, rfl, h1, h2⟩ := ry.here
    exact .inr (sr_in0 (neg := false) h rp rx (.inr h1) h2 q)
  · exact h.elim
theorem sr_notin : SimR K c H0 (gNotIn K) (dInG true) := by
  intro x y P h O H Q v u b σ ρ rp rx ry q
  unfold dInG at h
  split at h
  · obtain ⟨ch, e, h⟩ := optP_some h
    exact .inl ⟨_, _, sign_of e rx, ry, q _ _ H h (Ex.refl H) rp.inv rfl⟩
  · obtain ⟨p, xs, rfl, h1, h2⟩ := ry.here
    exact .inr (sr_in0 (neg := true) h rp rx (.inl (.inl (.inl h1))) h2 q)
  · obtain ⟨p, xs, rfl, h1, h2⟩ := ry.here
    exact .inr (sr_in0 (neg := true) h rp rx (.inr h1) h2 q)
  · exact h.elim
end
end QD

/-! QD4: built-ins, items, slices, chains, comprehensions, loops, calls by data. -/
namespace QD
open PySem L2

/-! ### terms for readings that HandS leaves without a name -/
def rLen (K : PySem.W.Frag) : List V → Hp → VK → Prop := fun as G Q => ∃ a k, as = [a] ∧ LenV K a G k ∧ Q (.int k) G
theorem q_len {X : Cx} : CallR X (.builtin "len") (rLen X.K) := call_len
def rInt1 : List V → Hp → VK → Prop := fun xs H Q => (∃ i, xs = [.int i] ∧ Q (.int i) H) ∨ ∃ k, xs = [.bl k] ∧ Q (.int (if k then 1 else 0)) H
theorem q_int1 {X : Cx} : CallR X (.type "int") rInt1 := call_int1
def rAbs : List V → Hp → VK → Prop := fun xs H Q => ∃ i, xs = [.int i] ∧ Q (.int (if i < 0 then -i else i)) H
theorem q_abs {X : Cx} : CallR X (.builtin "abs") rAbs := call_abs
def rListOf (K : PySem.W.Frag) : List V → Hp → VK → Prop := fun xs H Q => ∃ p ys, xs = [.ref p] ∧ (SqL K H p ys ∨ SqT K H p ys) ∧ ∀ l, H l = none → Q (.ref l) (upd H l (.lst ys))
theorem q_listOf {X : Cx} : CallR X (.type "list") (rListOf X.K) := call_list_of
def rTupOf (K : PySem.W.Frag) : List V → Hp → VK → Prop := fun xs H Q => ∃ p ys, xs = [.ref p] ∧ ((SqL K H p ys ∧ ∀ l, H l = none → Q (.ref l) (upd H l (.tup ys))) ∨ (SqT K H p ys ∧ Q (.ref p) H))
theorem q_tupOf {X : Cx} : CallR X (.type "tuple") (rTupOf X.K) := call_tuple_of
def rMax2 : List V → Hp → VK → Prop := fun as G Q => ∃ m n, as = [.int m, .int n] ∧ Q (.int (if n > m then n else m)) G
theorem q_max2 {X : Cx} (hc : X.calm = true) : CallR X (.builtin "max") rMax2 := call_max2 hc
def rMin2 : List V → Hp → VK → Prop := fun xs H Q => ∃ i j, xs = [.int i, .int j] ∧ Q (.int (if j < i then j else i)) H
theorem q_min2 {X : Cx} (hc : X.calm = true) : CallR X (.builtin "min") rMin2 := call_min2 hc
def rSplit : V → List V → Hp → VK → Prop := fun x xs H Q => ∃ a b, x = .str a ∧ xs = [.str b] ∧ (b.length == 0) = false ∧ a.length + 2 ≤ sizeLine ∧ rNewStrs (Txt.split a b) H Q
def rJoin (K : PySem.W.Frag) : V → List V → Hp → VK → Prop := fun x xs H Q => ∃ a p, ∃ ys : List Str, x = .str a ∧ xs = [.ref p] ∧ (SqL K H p (ys.map V.str) ∨ SqT K H p (ys.map V.str)) ∧
    (ys.map (·.length)).sum + ys.length * a.length ≤ 16777216 ∧ Q (.str (Txt.join a ys)) H
section
variable {X : Cx} {to te : TE} {o e : Expr}
theorem q_split {apos pos : Pos} (ho : PE X o to) (he : PE X e te) (hs : starEach [e] X.env = [(false, eval e X.env)] := by rfl) (hbase : attributeBase o "split" X.env (eval o X.env) = eval o X.env := by rfl) (hline : (apos.endLine == pos.line) = true := by rfl) :
    PE X (.Call (.Attribute o "split" apos) [e] [] pos) (tM1 rSplit to te) := pe_split ho he hs hbase hline
theorem q_join {apos pos : Pos} (ho : PE X o to) (he : PE X e te) (hs : starEach [e] X.env = [(false, eval e X.env)] := by rfl) (hbase : attributeBase o "join" X.env (eval o X.env) = eval o X.env := by rfl) (hline : (apos.endLine == pos.line) = true := by rfl) :
    PE X (.Call (.Attribute o "join" apos) [e] [] pos) (tM1 (rJoin X.K) to te) := pe_join ho he hs hbase hline
end
def gIx (K : PySem.W.Frag) : R2 := rIx K
theorem q_ix {X : Cx} : IxR X (gIx X.K) := ix_seq
def gSl (K : PySem.W.Frag) : V → Option Int → Option Int → Hp → VK → Prop := fun x lo hi H Q => rSlL K x lo hi H Q ∨ rSlS x lo hi H Q
theorem q_sl {X : Cx} : SlR X (gSl X.K) := sl_list.or sl_str

/-! ### data -/
def tyName : D → Option String
  | .non => some "NoneType"
  | .bl _ => some "bool"
  | .int _ => some "int"
  | .str _ => some "str"
  | .lst _ => some "list"
  | .tup _ => some "tuple"
  | _ => none
/-- isinstance against a built-in class, by the names -/
def isTy (a b : String) : Option Bool := kitB a b
def isD (d : D) (n : String) : Option Bool := (tyName d).bind fun a => isTy a n
def isD2 (d : D) (n m : String) : Option Bool := match isD d n, isD d m with
  | some b, some b' => some (b || b')
  | _, _ => none
def dIsi : DC
  | [d, .raw (.ty n)], P => optP (isD d n) fun b => P (.bl b)
  | _, _ => False
def dIsi2 (n m : String) : DU := fun d P => optP (isD2 d n m) fun b => P (.bl b)
def lenD : D → Option Nat
  | .str x => some x.length
  | .lst ds => some ds.length
  | .tup ds => some ds.length
  | _ => none
def dLen1 : DU
  | .str x, P => x.length ≤ sizeLine ∧ P (.int x.length)
  | .lst ds, P => P (.int ds.length)
  | .tup ds, P => P (.int ds.length)
  | _, _ => False
def dLen : DC
  | [d], P => dLen1 d P
  | _, _ => False
def dInt1 : DC
  | [.int i], P => P (.int i)
  | [.bl k], P => P (.int (if k then 1 else 0))
  | _, _ => False
def dAbs : DC
  | [.int i], P => P (.int (if i < 0 then -i else i))
  | _, _ => False
def dMax2 : DC
  | [.int i, .int j], P => P (.int (if j > i then j else i))
  | _, _ => False
def dMin2 : DC
  | [.int i, .int j], P => P (.int (if j < i then j else i))
  | _, _ => False
def dListOf : DC
  | [.lst ds], P => P (.lst ds)
  | [.tup ds], P => P (.lst ds)
  | _, _ => False
def dTupOf : DC
  | [.lst ds], P => P (.tup ds)
  | [.tup ds], P => P (.tup ds)
  | _, _ => False
def asBls : List D → Option (List Bool)
  | [] => some []
  | .bl b :: ds => (asBls ds).map (b :: ·)
  | _ => none
def asStrs : List D → Option (List Str)
  | [] => some []
  | .str b :: ds => (asStrs ds).map (b :: ·)
  | _ => none
def dAll : DC
  | [.lst ds], P => optP (asBls ds) fun bs => P (.bl (bs.all id))
  | _, _ => False
def dAny : DC
  | [.lst ds], P => optP (asBls ds) fun bs => P (.bl (bs.any id))
  | _, _ => False
/-- an item, an index -/
def dIx : DR
  | .lst ds, .int i, P => optP (atI ds i) P
  | .tup ds, .int i, P => optP (atI ds i) P
  | .str z, .int i, P => z.length ≤ sizeLine ∧ optP (atI z.cps.toList i) fun k => P (.str ⟨#[k]⟩)
  | _, _, _ => False
def cutD (xs : List D) (lo hi : Option Int) : List D := (xs.drop (HT.sIx xs.length 0 lo)).take (HT.sIx xs.length xs.length hi - HT.sIx xs.length 0 lo)
abbrev DO := DEnv → (Option Int → Prop) → Prop
def dNoPart : DO := fun _ P => P none
def dPart (e : DE) : DO := fun ρ P => e ρ fun d _ => asInt d fun i => P (some i)
def slD : D → Bool → Option Int → Option Int → (D → Bool → Prop) → Prop
  | .lst ds, b, l, u, P => P (.lst (cutD ds l u)) b
  | .str z, _, l, u, P => z.length ≤ sizeLine ∧ P (.str (cutS z l u)) false
  | _, _, _, _, _ => False
def dSl (e : DE) (lo hi : DO) : DE := fun ρ P => e ρ fun x b => lo ρ fun l => hi ρ fun u => slD x b l u P
def dChain (r r' : DR) (da db dc : DE) : DE := fun ρ P => da ρ fun x b => db ρ fun y b' => r x y fun z => asBl z fun k =>
  if k = true then dc ρ fun w b'' => r' y w fun z => P z (dirt z (b' || b'')) else P (.bl false) false
def dSplit (e s : DE) : DE := fun ρ P => e ρ fun x _ => asStr x fun a => s ρ fun y _ => asStr y fun b =>
  ((b.length == 0) = false ∧ a.length + 2 ≤ sizeLine) ∧ P (.lst ((Txt.split a b).map D.str)) false
def D.items : D → Option (List D)
  | .lst ds => some ds
  | .tup ds => some ds
  | _ => none
def strsOf (d : D) : Option (List Str) := d.items.bind asStrs
def dJoin (e s : DE) : DE := fun ρ P => e ρ fun x _ => asStr x fun a => s ρ fun y _ => optP (strsOf y) fun ys =>
  (ys.map (·.length)).sum + ys.length * a.length ≤ 16777216 ∧ P (.str (Txt.join a ys)) false
theorem dIsi_congr {xs ys : List D} {P : D → Prop} (h : xs = ys) : dIsi xs P = dIsi ys P := by rw [h]
theorem dLen1_congr {xs ys : D} {P : D → Prop} (h : xs = ys) : dLen1 xs P = dLen1 ys P := by rw [h]
theorem dLen_congr {xs ys : List D} {P : D → Prop} (h : xs = ys) : dLen xs P = dLen ys P := by rw [h]
theorem dInt1_congr {xs ys : List D} {P : D → Prop} (h : xs = ys) : dInt1 xs P = dInt1 ys P := by rw [h]
theorem dAbs_congr {xs ys : List D} {P : D → Prop} (h : xs = ys) : dAbs xs P = dAbs ys P := by rw [h]
theorem dMax2_congr {xs ys : List D} {P : D → Prop} (h : xs = ys) : dMax2 xs P = dMax2 ys P := by rw [h]
theorem dMin2_congr {xs ys : List D} {P : D → Prop} (h : xs = ys) : dMin2 xs P = dMin2 ys P := by rw [h]
theorem dListOf_congr {xs ys : List D} {P : D → Prop} (h : xs = ys) : dListOf xs P = dListOf ys P := by rw [h]
theorem dTupOf_congr {xs ys : List D} {P : D → Prop} (h : xs = ys) : dTupOf xs P = dTupOf ys P := by rw [h]
theorem dAll_congr {xs ys : List D} {P : D → Prop} (h : xs = ys) : dAll xs P = dAll ys P := by rw [h]
theorem dAny_congr {xs ys : List D} {P : D → Prop} (h : xs = ys) : dAny xs P = dAny ys P := by rw [h]
theorem dIx_congr {x y x' y' : D} {P : D → Prop} (h : x = x') (h' : y = y') : dIx x y P = dIx x' y' P := by rw [h, h']
theorem slD_congr {x x' : D} {b : Bool} {l u : Option Int} {P : D → Bool → Prop} (h : x = x') : slD x b l u P = slD x' b l u P := by rw [h]

theorem asBls_eq : ∀ {ds : List D} {bs : List Bool}, asBls ds = some bs → ds = bs.map D.bl
  | [], bs, h => by cases h; rfl
  | .bl b :: ds, bs, h => by
    simp only [asBls] at h
    obtain ⟨cs, e, rfl⟩ := Option.map_eq_some_iff.mp h
    rw [asBls_eq e]; rfl
  | .non :: _, _, h => by simp [asBls] at h
  | .int _ :: _, _, h => by simp [asBls] at h
  | .str _ :: _, _, h => by simp [asBls] at h
  | .lst _ :: _, _, h => by simp [asBls] at h
  | .tup _ :: _, _, h => by simp [asBls] at h
  | .ins _ _ :: _, _, h => by simp [asBls] at h
  | .raw _ :: _, _, h => by simp [asBls] at h
theorem asStrs_eq : ∀ {ds : List D} {bs : List Str}, asStrs ds = some bs → ds = bs.map D.str
  | [], bs, h => by cases h; rfl
  | .str b :: ds, bs, h => by
    simp only [asStrs] at h
    obtain ⟨cs, e, rfl⟩ := Option.map_eq_some_iff.mp h
    rw [asStrs_eq e]; rfl
  | .non :: _, _, h => by simp [asStrs] at h
  | .int _ :: _, _, h => by simp [asStrs] at h
  | .bl _ :: _, _, h => by simp [asStrs] at h
  | .lst _ :: _, _, h => by simp [asStrs] at h
  | .tup _ :: _, _, h => by simp [asStrs] at h
  | .ins _ _ :: _, _, h => by simp [asStrs] at h
  | .raw _ :: _, _, h => by simp [asStrs] at h
theorem asBls_map (bs : List Bool) : asBls (bs.map D.bl) = some bs := by
  induction bs with
  | nil => rfl
  | cons b r ih => simp only [List.map_cons, asBls, ih, Option.map_some]
theorem asStrs_map (bs : List Str) : asStrs (bs.map D.str) = some bs := by
  induction bs with
  | nil => rfl
  | cons b r ih => simp only [List.map_cons, asStrs, ih, Option.map_some]

section
variable {K : PySem.W.Frag} {c : Fm} {H0 : Hp} {ta tb te tc : TE} {da db de dc : DE}
theorem ty_of {H : Hp} : ∀ {d : D} {v : V} {n : String}, tyName d = some n → R K H d v → TyX K H v (.type n)
  | .non, v, n, e, r => by cases e; rw [show v = .non from r]; exact .base .non
  | .bl b, v, n, e, r => by cases e; rw [show v = .bl b from r]; exact .base (.bl b)
  | .int b, v, n, e, r => by cases e; rw [show v = .int b from r]; exact .base (.int b)
  | .str b, v, n, e, r => by cases e; rw [show v = .str b from r]; exact .base (.str b)
  | .lst ds, v, n, e, r => by
    cases e
    obtain ⟨a, xs, rfl, h1, h2⟩ := r
    exact .base (.lst h1)
  | .tup ds, v, n, e, r => by
    cases e
    obtain ⟨a, xs, rfl, h1, h2⟩ := r
    rcases h1 with (h | ⟨o, h⟩) | ⟨o, its, n, h, hc, _⟩
    · exact .base (.tup h)
    · exact .fTuple h
    · exact .kTuple h hc
  | .ins _ _, v, n, e, r => by cases e
  | .raw _, v, n, e, r => by cases e
theorem sc_isi : SimC K c H0 (rIsi K) dIsi := by
  intro xs P h O H Q vs b σ ρ rp rx q
  unfold dIsi at h
  split at h
  · rename_i d n
    obtain ⟨b', e, h⟩ := optP_some h
    obtain ⟨a, e1, e2⟩ := Option.bind_eq_some_iff.mp e
    obtain ⟨v, r, rfl, h1, v2, r2, rfl, h2, h3⟩ := rx.here
    rw [show r2 = [] from h3, show v2 = V.ty n from h2]
    exact ⟨v, .ty n, _, _, b', rfl, .ty n, ty_of e1 h1, kit_ty e2, q _ _ H h (Ex.refl H) rp.inv rfl⟩
  · exact h.elim
theorem sim_isi2 {n m : String} (ha : SimE K c H0 ta da) : SimE K c H0 (tCB (rIsiT K) (tCons ta (tCons (tTup (tCons (tC (.ty n)) (tCons (tC (.ty m)) tNil))) tNil))) (dUn (dIsi2 n m) da) := by
  intro ρ P h O σ H Q rp q
  refine ha ρ _ h O σ H _ rp fun v x b H1 h1 rp1 e1 rx => ?_
  refine ⟨by show 2 ≤ sizeLine; decide, fun p hp => ?_⟩
  have ex : Ex c.S H1 (upd H1 p (.tup [.ty n, .ty m])) := Ex.new hp
  obtain ⟨b', e, h1⟩ := optP_some h1
  unfold isD2 at e
  split at e
  · rename_i b1 b2 z1 z2
    cases e
    obtain ⟨a, y1, y2⟩ := Option.bind_eq_some_iff.mp z1
    obtain ⟨a', y3, y4⟩ := Option.bind_eq_some_iff.mp z2
    rw [y1] at y3
    cases y3
    refine ⟨v, p, _, _, [.type n, .type m], (b1 || b2), rfl, upd_same, .cons (.ty n) (.cons (.ty m) .nil), ty_of y1 (rx.up ex).here, ?_, q _ _ _ _ h1 (rp1.up ex (c.st _ _ (Grow.new hp) rp1.inv)) (e1.trans ex) rfl⟩
    refine kitAny_cons (kit_ty y2) (fun e => ?_) (fun e => by rw [e]; rfl)
    subst e
    refine kitAny_cons (kit_ty y4) (fun e => ?_) (fun e => by rw [e]; rfl)
    rw [e]
    rfl
  · cases e
theorem sc_len : SimC K c H0 (rLen K) dLen := by
  intro xs P h O H Q vs b σ ρ rp rx q
  unfold dLen at h
  split at h
  · rename_i d
    obtain ⟨v, r, rfl, h1, h2⟩ := rx.here
    rw [show r = [] from h2]
    cases d with
    | str x => rw [show v = .str x from h1]; exact ⟨_, _, rfl, ⟨h.1, rfl⟩, q _ _ H h.2 (Ex.refl H) rp.inv rfl⟩
    | lst ds =>
      obtain ⟨a, ys, rfl, h3, h4⟩ := h1
      refine ⟨_, ys.length, rfl, .inl ⟨ys, .inl (.inl h3), rfl⟩, ?_⟩
      rw [h4.length]
      exact q _ _ H h (Ex.refl H) rp.inv rfl
    | tup ds =>
      obtain ⟨a, ys, rfl, h3, h4⟩ := h1
      refine ⟨_, ys.length, rfl, .inr ⟨ys, h3, rfl⟩, ?_⟩
      rw [h4.length]
      exact q _ _ H h (Ex.refl H) rp.inv rfl
    | non => exact h.elim
    | bl _ => exact h.elim
    | int _ => exact h.elim
    | ins _ _ => exact h.elim
    | raw _ => exact h.elim
  · exact h.elim
theorem sc_int1 : SimC K c H0 rInt1 dInt1 := by
  intro xs P h O H Q vs b σ ρ rp rx q
  unfold dInt1 at h
  split at h
  · obtain ⟨v, r, rfl, h1, h2⟩ := rx.here
    rw [show r = [] from h2, show v = .int _ from h1]
    exact .inl ⟨_, rfl, q _ _ H h (Ex.refl H) rp.inv rfl⟩
  · obtain ⟨v, r, rfl, h1, h2⟩ := rx.here
    rw [show r = [] from h2, show v = .bl _ from h1]
    exact .inr ⟨_, rfl, q _ _ H h (Ex.refl H) rp.inv rfl⟩
  · exact h.elim
theorem sc_abs : SimC K c H0 rAbs dAbs := by
  intro xs P h O H Q vs b σ ρ rp rx q
  unfold dAbs at h
  split at h
  · obtain ⟨v, r, rfl, h1, h2⟩ := rx.here
    rw [show r = [] from h2, show v = .int _ from h1]
    exact ⟨_, rfl, q _ _ H h (Ex.refl H) rp.inv rfl⟩
  · exact h.elim
theorem sc_max2 : SimC K c H0 rMax2 dMax2 := by
  intro xs P h O H Q vs b σ ρ rp rx q
  unfold dMax2 at h
  split at h
  · obtain ⟨v, r, rfl, h1, v2, r2, rfl, h2, h3⟩ := rx.here
    rw [show r2 = [] from h3, show v = .int _ from h1, show v2 = .int _ from h2]
    exact ⟨_, _, rfl, q _ _ H h (Ex.refl H) rp.inv rfl⟩
  · exact h.elim
theorem sc_min2 : SimC K c H0 rMin2 dMin2 := by
  intro xs P h O H Q vs b σ ρ rp rx q
  unfold dMin2 at h
  split at h
  · obtain ⟨v, r, rfl, h1, v2, r2, rfl, h2, h3⟩ := rx.here
    rw [show r2 = [] from h3, show v = .int _ from h1, show v2 = .int _ from h2]
    exact ⟨_, _, rfl, q _ _ H h (Ex.refl H) rp.inv rfl⟩
  · exact h.elim
theorem sc_listOf : SimC K c H0 (rListOf K) dListOf := by
  intro xs P h O H Q vs b σ ρ rp rx q
  unfold dListOf at h
  split at h
  · obtain ⟨v, r, rfl, ⟨a, ys, rfl, h3, h4⟩, h2⟩ := id rx
    rw [show r = [] from h2]
    refine ⟨a, ys, rfl, .inl (.inl (.inl (tracked_of h3))), fun l hl => ?_⟩
    obtain ⟨z1, z2, z3⟩ := sr_new (b := b) rp hl h4
    exact q _ _ _ h z1 z2 z3
  · obtain ⟨v, r, rfl, ⟨a, ys, rfl, h3, h4⟩, h2⟩ := id rx
    rw [show r = [] from h2]
    refine ⟨a, ys, rfl, .inr (grow_t but_grow h3), fun l hl => ?_⟩
    obtain ⟨z1, z2, z3⟩ := sr_new (b := b) rp hl h4
    exact q _ _ _ h z1 z2 z3
  · exact h.elim
theorem sc_tupOf : SimC K c H0 (rTupOf K) dTupOf := by
  intro xs P h O H Q vs b σ ρ rp rx q
  unfold dTupOf at h
  split at h
  · obtain ⟨v, r, rfl, ⟨a, ys, rfl, h3, h4⟩, h2⟩ := id rx
    rw [show r = [] from h2]
    refine ⟨a, ys, rfl, .inl ⟨.inl (.inl (tracked_of h3)), fun l hl => ?_⟩⟩
    have hn := rp.new hl
    have ex : Ex c.S H (upd H l (.tup ys)) := Ex.new hl
    exact q _ _ _ h ex (c.st _ _ (Grow.new hl) rp.inv) ⟨l, ys, rfl, .inl (.inl (but_of (fun z => hn (mo_of z)) upd_same)), RBA.up ex h4⟩
  · obtain ⟨v, r, rfl, h1, h2⟩ := id rx
    obtain ⟨a, ys, e1, h3, h4⟩ := id h1
    rw [show r = [] from h2, e1]
    refine ⟨a, ys, rfl, .inr ⟨grow_t but_grow h3, ?_⟩⟩
    rw [← e1]
    exact q _ _ _ h (Ex.refl H) rp.inv h1
  · exact h.elim
theorem sc_all : SimC K c H0 (rAll K) dAll := by
  intro xs P h O H Q vs b σ ρ rp rx q
  unfold dAll at h
  split at h
  · obtain ⟨bs, e, h⟩ := optP_some h
    obtain ⟨v, r, rfl, ⟨a, ys, rfl, h3, h4⟩, h2⟩ := rx.here
    rw [show r = [] from h2]
    rw [asBls_eq e] at h4
    rw [h4.bls] at h3
    exact ⟨a, bs, rfl, .inl (.inl h3), q _ _ H h (Ex.refl H) rp.inv rfl⟩
  · exact h.elim
theorem sc_any : SimC K c H0 (rAny K) dAny := by
  intro xs P h O H Q vs b σ ρ rp rx q
  unfold dAny at h
  split at h
  · obtain ⟨bs, e, h⟩ := optP_some h
    obtain ⟨v, r, rfl, ⟨a, ys, rfl, h3, h4⟩, h2⟩ := rx.here
    rw [show r = [] from h2]
    rw [asBls_eq e] at h4
    rw [h4.bls] at h3
    exact ⟨a, bs, rfl, .inl (.inl h3), q _ _ H h (Ex.refl H) rp.inv rfl⟩
  · exact h.elim
theorem atI_ra {H : Hp} {ds : List D} {vs : List V} {i : Int} {d : D} (h : RA K H ds vs) (e : atI ds i = some d) : ∃ v, atI vs i = some v ∧ R K H d v := by
  unfold atI at e ⊢
  obtain ⟨j, e1, e2⟩ := Option.bind_eq_some_iff.mp e
  obtain ⟨v, h1, h2⟩ := h.get' e2
  exact ⟨v, by rw [h.length, e1]; exact h1, h2⟩
theorem sr_ix : SimR K c H0 (gIx K) dIx := by
  intro x y P h O H Q v u b σ ρ rp rx ry q
  unfold dIx at h
  split at h
  · obtain ⟨d, e, h⟩ := optP_some h
    obtain ⟨p, xs, rfl, h1, h2⟩ := id rx
    obtain ⟨w, e1, h3⟩ := atI_ra h2 e
    exact .inl ⟨p, xs, _, w, rfl, ry, .inl (.inl (tracked_of h1)), e1, q _ _ H h (Ex.refl H) rp.inv h3⟩
  · obtain ⟨d, e, h⟩ := optP_some h
    obtain ⟨p, xs, rfl, h1, h2⟩ := id rx
    obtain ⟨w, e1, h3⟩ := atI_ra h2 e
    exact .inr (.inl ⟨p, xs, _, w, rfl, ry, grow_t but_grow h1, e1, q _ _ H h (Ex.refl H) rp.inv h3⟩)
  · obtain ⟨z, h⟩ := h
    obtain ⟨k, e, h⟩ := optP_some h
    exact .inr (.inr ⟨_, _, _, rx, ry, z, e, q _ _ H h (Ex.refl H) rp.inv rfl⟩)
  · exact h.elim
def SimO (K : PySem.W.Frag) (c : Fm) (H0 : Hp) (to : TO) (d : DO) : Prop := ∀ ρ P, d ρ P → ∀ O σ H Q, Rep K c H0 O H σ ρ → (∀ i H', P i → Rep K c H0 O H' σ ρ → Ex c.S H H' → Q i H') → to σ H Q
theorem sim_noPart : SimO K c H0 tNoPart dNoPart := fun ρ P h O σ H Q rp q => q none H h rp (Ex.refl H)
theorem rb_int {K : PySem.W.Frag} {H : Hp} {v : V} : ∀ {d : D} {P : Int → Prop}, R K H d v → asInt d P → ∃ k, d = .int k ∧ v = .int k ∧ P k
  | .int k, _, r, h => ⟨k, rfl, r, h⟩
  | .non, _, _, h => h.elim
  | .str _, _, _, h => h.elim
  | .bl _, _, _, h => h.elim
  | .lst _, _, _, h => h.elim
  | .tup _, _, _, h => h.elim
  | .ins _ _, _, _, h => h.elim
  | .raw _, _, _, h => h.elim
theorem sim_part (ha : SimE K c H0 ta da) : SimO K c H0 (tPart ta) (dPart da) := by
  intro ρ P h O σ H Q rp q
  refine ha ρ _ h O σ H _ rp fun v x b H1 h1 rp1 e1 rx => ?_
  obtain ⟨i, _, rfl, h1⟩ := rb_int rx h1
  exact ⟨i, rfl, q _ H1 h1 rp1 e1⟩
theorem RA.cut {H : Hp} {ds : List D} {vs : List V} (h : RA K H ds vs) (lo hi : Option Int) : RA K H (cutD ds lo hi) (cutV vs lo hi) := by
  unfold cutD cutV
  rw [h.length]
  exact (h.drop _).take _
theorem sim_sl {tl th : TO} {dl dh : DO} (ha : SimE K c H0 ta da) (hl : SimO K c H0 tl dl) (hh : SimO K c H0 th dh) : SimE K c H0 (tSl (gSl K) ta tl th) (dSl da dl dh) := by
  intro ρ P h O σ H Q rp q
  refine ha ρ _ h O σ H _ rp fun v x b H1 h1 rp1 e1 rx => ?_
  refine hl ρ _ h1 O σ H1 _ rp1 fun l H2 h2 rp2 e2 => ?_
  refine hh ρ _ h2 O σ H2 _ rp2 fun u H3 h3 rp3 e3 => ?_
  have rx3 := (rx.up e2).up e3
  have e13 := (e1.trans e2).trans e3
  cases x with
  | lst ds =>
    obtain ⟨p, xs, rfl, g1, g2⟩ := id rx3
    refine .inl ⟨p, xs, rfl, .inl (.inl (tracked_of g1)), fun p' hp => ?_⟩
    obtain ⟨z1, z2, z3⟩ := sr_new (b := b) rp3 hp (show RBA K c O H3 b _ _ from g2.cut l u)
    exact q _ _ _ _ h3 (rp3.up z1 z2) (e13.trans z1) z3
  | str z => exact .inr ⟨z, rx3, h3.1, q _ _ _ H3 h3.2 rp3 e13 rfl⟩
  | non => exact h3.elim
  | bl _ => exact h3.elim
  | int _ => exact h3.elim
  | tup _ => exact h3.elim
  | ins _ _ => exact h3.elim
  | raw _ => exact h3.elim
theorem sim_chain {r r' : R2} {dr dr' : DR} (hr : SimR K c H0 r dr) (hr' : SimR K c H0 r' dr') (ha : SimE K c H0 ta da) (hb : SimE K c H0 tb db) (hc : SimE K c H0 tc dc) : SimE K c H0 (tChain r r' ta tb tc) (dChain dr dr' da db dc) := by
  intro ρ P h O σ H Q rp q
  refine ha ρ _ h O σ H _ rp fun v x b H1 h1 rp1 e1 rx => ?_
  refine hb ρ _ h1 O σ H1 _ rp1 fun u y b' H2 h2 rp2 e2 ry => ?_
  refine hr x y _ h2 O H2 _ v u (b || b') σ ρ rp2 (rx.up e2).or ry.or' fun z w H3 h3 e3 i3 rz => ?_
  have rp3 := rp2.up e3 i3
  obtain ⟨k, e, h4⟩ := rb_bl rz h3
  refine ⟨k, e, ?_⟩
  cases k with
  | false => exact q _ _ _ H3 h4 rp3 ((e1.trans e2).trans e3) rfl
  | true =>
    refine hc ρ _ h4 O σ H3 _ rp3 fun w' z' b'' H4 h5 rp4 e4 rz' => ?_
    exact hr' y z' _ h5 O H4 _ u w' (b' || b'') σ ρ rp4 ((ry.up e3).up e4).or rz'.or' fun z w H5 h6 e5 i5 rw' => q w z _ H5 h6 (rp4.up e5 i5) (((e1.trans e2).trans (e3.trans e4)).trans e5) rw'.dirt
theorem rb_str {K : PySem.W.Frag} {H : Hp} {v : V} : ∀ {d : D} {P : Str → Prop}, R K H d v → asStr d P → ∃ k, v = .str k ∧ P k
  | .str k, _, r, h => ⟨k, r, h⟩
  | .non, _, _, h => h.elim
  | .int _, _, _, h => h.elim
  | .bl _, _, _, h => h.elim
  | .lst _, _, _, h => h.elim
  | .tup _, _, _, h => h.elim
  | .ins _ _, _, _, h => h.elim
  | .raw _, _, _, h => h.elim
theorem sim_split (ha : SimE K c H0 ta da) (hb : SimE K c H0 tb db) : SimE K c H0 (tM1 rSplit ta tb) (dSplit da db) := by
  intro ρ P h O σ H Q rp q
  refine ha ρ _ h O σ H _ rp fun v x b H1 h1 rp1 e1 rx => ?_
  obtain ⟨a, ea, h2⟩ := rb_str rx h1
  refine ⟨⟨a, ea⟩, ?_⟩
  refine hb ρ _ h2 O σ H1 _ rp1 fun u y b' H2 h3 rp2 e2 ry => ?_
  obtain ⟨s, es, h4⟩ := rb_str ry h3
  refine ⟨a, s, ea, by rw [es], h4.1.1, h4.1.2, fun p hp => ?_⟩
  obtain ⟨z1, z2, z3⟩ := sr_new (b := false) rp2 hp (show RBA K c O H2 false _ _ from RA.strs' (Txt.split a s))
  exact q _ _ _ _ h4.2 (rp2.up z1 z2) ((e1.trans e2).trans z1) z3
theorem items_of {H : Hp} : ∀ {d : D} {v : V} {ds : List D}, d.items = some ds → R K H d v → ∃ p xs, v = .ref p ∧ (SqL K H p xs ∨ SqT K H p xs) ∧ RA K H ds xs
  | .lst _, v, ds, e, r => by
    cases e
    obtain ⟨a, xs, h1, h2, h3⟩ := r
    exact ⟨a, xs, h1, .inl (.inl (.inl h2)), h3⟩
  | .tup _, v, ds, e, r => by
    cases e
    obtain ⟨a, xs, h1, h2, h3⟩ := r
    exact ⟨a, xs, h1, .inr h2, h3⟩
  | .non, _, _, e, _ => by cases e
  | .bl _, _, _, e, _ => by cases e
  | .int _, _, _, e, _ => by cases e
  | .str _, _, _, e, _ => by cases e
  | .ins _ _, _, _, e, _ => by cases e
  | .raw _, _, _, e, _ => by cases e
theorem sim_join (ha : SimE K c H0 ta da) (hb : SimE K c H0 tb db) : SimE K c H0 (tM1 (rJoin K) ta tb) (dJoin da db) := by
  intro ρ P h O σ H Q rp q
  refine ha ρ _ h O σ H _ rp fun v x b H1 h1 rp1 e1 rx => ?_
  obtain ⟨a, ea, h2⟩ := rb_str rx h1
  refine ⟨⟨a, ea⟩, ?_⟩
  refine hb ρ _ h2 O σ H1 _ rp1 fun u y b' H2 h3 rp2 e2 ry => ?_
  obtain ⟨ys, e, h3⟩ := optP_some h3
  obtain ⟨ds, f1, f2⟩ := Option.bind_eq_some_iff.mp e
  obtain ⟨p, xs, rfl, g1, g2⟩ := items_of f1 ry.here
  rw [asStrs_eq f2] at g2
  rw [g2.strs] at g1
  exact ⟨a, p, ys, ea, rfl, g1, h3.1, q _ _ _ H2 h3.2 rp2 (e1.trans e2) rfl⟩
end
end QD

/-! QD5: what is walked, comprehensions, loops, calls, own lists, a def's promise by data. -/
namespace QD
open PySem L2

/-! ### a list, a tuple or a text, walked -/
def iAny (K : PySem.W.Frag) (te : TE) : TI := fun σ H R => te σ H fun x H1 =>
  (∃ a xs, x = .ref a ∧ SqL K H1 a xs ∧ R (Itl K a) H1) ∨ (∃ a xs, x = .ref a ∧ SqT K H1 a xs ∧ R (Itt K a) H1) ∨ (∃ z, x = .str z ∧ R (Its z) H1)
/-- a new iterator object at the heap's end -/
theorem seat {X : Cx} {pins : List (Addr × Obj)} {σ : St} {G : Hp} {z : Shared} {tg : Expr} {Rr : It → Hp → Prop} {J : It} {tn : Nat → Heap → Prop} (I : Inv X pins σ G z) (ob : Obj)
    (turn : Turn X.prog X.w X.K tg J [z.heap.objs.size] z.heap.objs.size tn) (st : tn 0 (z.heap.push ob)) (hq : Rr J G) : PIE X pins σ tg Rr (.ref z.heap.objs.size) { z with heap := z.heap.push ob } :=
  pi_one (tk := z.toks) I ob turn st hq
theorem pi_any {X : Cx} {tg l : Expr} {tl : TE} (hl : PE X l tl) : PI X tg l (iAny X.K tl) := by
  constructor
  intro pins s0 σ G Rr I hw
  refine thn (hl.run pins s0 σ G _ I hw) fun u s2 ev => ?_
  obtain ⟨x, G2, J2, rel, cases3⟩ := ev
  rcases cases3 with ⟨p, xs, ex, sq, done⟩ | ⟨p, xs, ex, sq, done⟩ | ⟨txt, ex, done⟩
  · cases ex
    cases rel
    obtain ⟨vals, rv, is, hsz⟩ := J2.list sq
    exact wpAny_pyIter_list is.isList (seat J2 _ (turn_list p _) ⟨_, Heap.get?_push_size _ rfl, rfl, rfl⟩ done)
  · cases ex
    cases rel
    obtain ⟨vals, rv, is, hsz⟩ := J2.tuple sq
    exact wpAny_pyIter_tuple (show s2.heap.IsTuple p vals.toArray from is) (seat J2 _ (turn_tuple p _) ⟨_, Heap.get?_push_size _ rfl, rfl, rfl⟩ done)
  · cases ex
    obtain ⟨tk, rfl⟩ := rel
    cases narrow : txt.cps.all (· < 128)
    · exact wpAny_pyIter_wide narrow (seat J2 _ (turn_str _ txt tk "str_iterator" (.inr rfl)) ⟨_, Heap.get?_push_size _ rfl, rfl, rfl⟩ done)
    · exact wpAny_pyIter_ascii narrow (seat J2 _ (turn_str _ txt tk "str_ascii_iterator" (.inl rfl)) ⟨_, Heap.get?_push_size _ rfl, rfl, rfl⟩ done)

/-- one item of a walk: as it lies, or a new pair -/
def Yld (K : PySem.W.Frag) (F H : Hp) (x : V) (H' : Hp) (d : D) : Prop :=
  (H' = H ∧ R K F d x) ∨ ∃ T a b x1 x2, d = .tup [a, b] ∧ x = .ref T ∧ H T = none ∧ H' = upd H T (.tup [x1, x2]) ∧ R K F a x1 ∧ R K F b x2
def WalkD (K : PySem.W.Frag) (F : Hp) (J : It) (xs : List D) : Prop := ∃ (G : Hp → Prop) (Y : Nat → Hp → V → Hp → Prop), Walk J xs.length G Y ∧ (∀ H, Grow F H → G H) ∧
  ∀ i H x H' d, xs[i]? = some d → Y i H x H' → Yld K F H x H' d
abbrev DI := DEnv → (List D → Prop) → Prop
def SimI (K : PySem.W.Frag) (c : Fm) (H0 : Hp) (wi : TI) (di : DI) : Prop := ∀ ρ P, di ρ P → ∀ O σ H Rr, Rep K c H0 O H σ ρ →
  (∀ J xs H', P xs → Rep K c H0 O H' σ ρ → Ex c.S H H' → WalkD K (but H' (c.M ++ O)) J xs → Rr J H') → wi σ H Rr
def D.walked : D → Option (List D)
  | .lst ds => some ds
  | .tup ds => some ds
  | .str z => some (z.cps.toList.map fun k => .str ⟨#[k]⟩)
  | _ => none
def dWalk (e : DE) : DI := fun ρ P => e ρ fun d b => b = false ∧ optP d.walked P
def rangeD (lo : Int) (n : Nat) : List D := (List.range n).map fun (k : Nat) => D.int (lo + (k : Int))
def dRange1 (e : DE) : DI := fun ρ P => e ρ fun d _ => asInt d fun n => n < 4611686018427387904 ∧ -4611686018427387904 ≤ n ∧ P (rangeD 0 n.toNat)
def dRange2 (e f : DE) : DI := fun ρ P => e ρ fun d _ => f ρ fun d' _ => asInt d fun a => asInt d' fun n => (a < 4611686018427387904 ∧ -4611686018427387904 ≤ a ∧ n < 4611686018427387904 ∧ -4611686018427387904 ≤ n) ∧ P (rangeD a (n - a).toNat)
section
variable {K : PySem.W.Frag} {c : Fm} {H0 : Hp} {ta tb te : TE} {da db de : DE}
theorem walkD_list {F : Hp} {a : Addr} {xs : List V} {ds : List D} (h : SqL K F a xs) (ra : RA K F ds xs) : WalkD K F (Itl K a) ds := by
  refine ⟨fun H => SqL K H a xs, YAt xs, by rw [← ra.length]; exact walk_list, fun H g => grow_l g h, fun i H x H' d e y => .inl ⟨y.1, ?_⟩⟩
  obtain ⟨v, h1, h2⟩ := ra.get' e
  have := y.2.symm.trans h1
  cases this
  exact h2
theorem walkD_tup {F : Hp} {a : Addr} {xs : List V} {ds : List D} (h : SqT K F a xs) (ra : RA K F ds xs) : WalkD K F (Itt K a) ds := by
  refine ⟨fun H => SqT K H a xs, YAt xs, by rw [← ra.length]; exact walk_tup, fun H g => grow_t g h, fun i H x H' d e y => .inl ⟨y.1, ?_⟩⟩
  obtain ⟨v, h1, h2⟩ := ra.get' e
  have := y.2.symm.trans h1
  cases this
  exact h2
theorem walkD_str {F : Hp} {z : Str} : WalkD K F (Its z) (z.cps.toList.map fun k => .str ⟨#[k]⟩) := by
  refine ⟨fun _ => True, fun i H v H' => H' = H ∧ ∃ c, z.cps[i]? = some c ∧ v = .str ⟨#[c]⟩, by rw [List.length_map, Array.length_toList]; exact walk_str, fun H g => True.intro, fun i H x H' d e y => .inl ⟨y.1, ?_⟩⟩
  obtain ⟨k, h1, h2⟩ := y.2
  rw [List.getElem?_map, Array.getElem?_toList, h1] at e
  cases e
  exact h2
theorem walkD_range {F : Hp} {lo : Int} {n : Nat} : WalkD K F (Itr lo n) (rangeD lo n) := by
  unfold rangeD
  refine ⟨fun _ => True, YFn fun i => .int (lo + i), by rw [List.length_map, List.length_range]; exact walk_range, fun H g => True.intro, fun i H x H' d e y => .inl ⟨y.1, ?_⟩⟩
  rw [List.getElem?_map] at e
  obtain ⟨k, e1, rfl⟩ := Option.map_eq_some_iff.mp e
  have e2 := (List.getElem?_eq_some_iff.mp e1).2
  rw [List.getElem_range] at e2
  rw [← e2]
  exact y.2
theorem si_any (ha : SimE K c H0 ta da) : SimI K c H0 (iAny K ta) (dWalk da) := by
  intro ρ P h O σ H Rr rp q
  refine ha ρ _ h O σ H _ rp fun v x b H1 h1 rp1 e1 rx => ?_
  obtain ⟨hb, h1⟩ := h1
  subst hb
  obtain ⟨xs, e, h1⟩ := optP_some h1
  cases x with
  | lst ds =>
    cases e
    obtain ⟨a, ys, rfl, g1, g2⟩ := id rx
    exact .inl ⟨a, ys, rfl, .inl (.inl (tracked_of g1)), q _ _ H1 h1 rp1 e1 (walkD_list (.inl (.inl g1)) g2)⟩
  | tup ds =>
    cases e
    obtain ⟨a, ys, rfl, g1, g2⟩ := id rx
    exact .inr (.inl ⟨a, ys, rfl, grow_t but_grow g1, q _ _ H1 h1 rp1 e1 (walkD_tup g1 g2)⟩)
  | str z =>
    cases e
    exact .inr (.inr ⟨z, rx, q _ _ H1 h1 rp1 e1 walkD_str⟩)
  | non => cases e
  | bl _ => cases e
  | int _ => cases e
  | ins _ _ => cases e
  | raw _ => cases e
theorem si_range1 (ha : SimE K c H0 ta da) : SimI K c H0 (iRng1 (tCons ta tNil)) (dRange1 da) := by
  intro ρ P h O σ H Rr rp q
  refine ha ρ _ h O σ H _ rp fun v x b H1 h1 rp1 e1 rx => ?_
  obtain ⟨n, _, rfl, h2⟩ := rb_int rx h1
  exact ⟨n, rfl, h2.2.1, h2.1, q _ _ H1 h2.2.2 rp1 e1 walkD_range⟩
theorem si_range2 (ha : SimE K c H0 ta da) (hb : SimE K c H0 tb db) : SimI K c H0 (iRng2 (tCons ta (tCons tb tNil))) (dRange2 da db) := by
  intro ρ P h O σ H Rr rp q
  refine ha ρ _ h O σ H _ rp fun v x b H1 h1 rp1 e1 rx => ?_
  refine hb ρ _ h1 O σ H1 _ rp1 fun u y b' H2 h2 rp2 e2 ry => ?_
  obtain ⟨i, _, rfl, h2⟩ := rb_int rx h2
  obtain ⟨n, _, rfl, h2⟩ := rb_int ry h2
  exact ⟨_, _, rfl, ⟨h2.1.2.1, h2.1.1, h2.1.2.2.2, h2.1.2.2.1⟩, q _ _ H2 h2.2 rp2 (e1.trans e2) walkD_range⟩
end

/-! ### targets that a block forgets -/
def dwipe (ρ : DEnv) : List Nat → DEnv
  | [] => ρ
  | v :: vs => (dwipe ρ vs).set v none
theorem wipe_len (σ : St) (vs : List Nat) : (wipe σ vs).length = σ.length := wipe_length σ vs
theorem dwipe_len (ρ : DEnv) : ∀ vs : List Nat, (dwipe ρ vs).length = ρ.length
  | [] => rfl
  | v :: vs => by unfold dwipe; rw [List.length_set, dwipe_len ρ vs]
theorem wipe_get (σ : St) {i : Nat} : ∀ {vs : List Nat}, i ∉ vs → (wipe σ vs)[i]? = σ[i]?
  | [], _ => rfl
  | v :: vs, h => by
    unfold wipe
    rw [List.getElem?_set_ne (fun e => h (by rw [e]; exact List.mem_cons_self)), wipe_get σ fun z => h (List.mem_cons_of_mem _ z)]
theorem wipe_in (σ : St) {i : Nat} (hi : i < σ.length) : ∀ {vs : List Nat}, i ∈ vs → (wipe σ vs)[i]? = some none
  | [], h => by simp at h
  | v :: vs, h => by
    unfold wipe
    by_cases e : v = i
    · subst e
      rw [List.getElem?_set_self (by rw [wipe_len]; exact hi)]
    · rw [List.getElem?_set_ne e]
      exact wipe_in σ hi ((List.mem_cons.mp h).elim (fun z => absurd z.symm e) id)
theorem dwipe_get (σ : DEnv) {i : Nat} : ∀ {vs : List Nat}, i ∉ vs → (dwipe σ vs)[i]? = σ[i]?
  | [], _ => rfl
  | v :: vs, h => by
    unfold dwipe
    rw [List.getElem?_set_ne (fun e => h (by rw [e]; exact List.mem_cons_self)), dwipe_get σ fun z => h (List.mem_cons_of_mem _ z)]
theorem dwipe_in (σ : DEnv) {i : Nat} (hi : i < σ.length) : ∀ {vs : List Nat}, i ∈ vs → (dwipe σ vs)[i]? = some none
  | [], h => by simp at h
  | v :: vs, h => by
    unfold dwipe
    by_cases e : v = i
    · subst e
      rw [List.getElem?_set_self (by rw [dwipe_len]; exact hi)]
    · rw [List.getElem?_set_ne e]
      exact dwipe_in σ hi ((List.mem_cons.mp h).elim (fun z => absurd z.symm e) id)
theorem wipe_ext {σ τ : St} {vs : List Nat} (hl : σ.length = τ.length) (h : ∀ i, i ∉ vs → σ[i]? = τ[i]?) : wipe σ vs = wipe τ vs := by
  apply List.ext_getElem?
  intro i
  by_cases hi : i ∈ vs
  · by_cases hl2 : i < σ.length
    · rw [wipe_in σ hl2 hi, wipe_in τ (by omega) hi]
    · rw [List.getElem?_eq_none (by rw [wipe_len]; omega), List.getElem?_eq_none (by rw [wipe_len]; omega)]
  · rw [wipe_get σ hi, wipe_get τ hi, h i hi]
/-- a target that stores into the slots ns only -/
def SimGn (K : PySem.W.Frag) (c : Fm) (H0 : Hp) (g : TG) (dg : DG) (ns : List Nat) : Prop := ∀ x ρ P, dg x ρ P → ∀ v O σ H Q, Rep K c H0 O H σ ρ → R K (but H (c.M ++ O)) x v →
  (∀ ρ' σ', P ρ' → Rep K c H0 O H σ' ρ' → σ'.length = σ.length → (∀ i, i ∉ ns → σ'[i]? = σ[i]? ∧ ρ'[i]? = ρ[i]?) → Q σ' H) → g v σ H Q
section
variable {K : PySem.W.Frag} {c : Fm} {H0 : Hp}
theorem SimGn.g {g : TG} {dg : DG} {ns : List Nat} (h : SimGn K c H0 g dg ns) : SimG K c H0 g dg := fun x ρ P p v O σ H Q rp rv q => h x ρ P p v O σ H Q rp rv fun ρ' σ' a b _ _ => q ρ' σ' a b
theorem sgn_name {i : Nat} : SimGn K c H0 (gName i) (dGName i) [i] := fun x ρ P h v O σ H Q rp rv q => q _ _ h (rp.setVal i rv) (List.length_set ..) fun j hj => by
  have hj : i ≠ j := fun e => hj (by rw [e]; exact List.mem_singleton.mpr rfl)
  exact ⟨List.getElem?_set_ne hj, List.getElem?_set_ne hj⟩
/-- a, b = pair -/
def dGPair (i j : Nat) : DG
  | .tup [a, b], ρ, Q => Q ((ρ.set i (some (Ent.val a))).set j (some (Ent.val b)))
  | _, _, _ => False
theorem sgn_pair {i j : Nat} : SimGn K c H0 (gTup K 2 (gCons (gName i) (gCons (gName j) gNil))) (dGPair i j) [i, j] := by
  intro x ρ P h v O σ H Q rp rv q
  unfold dGPair at h
  split at h
  · rename_i a b
    obtain ⟨p, xs, rfl, h1, h2⟩ := rv
    obtain ⟨x1, r1, rfl, g1, x2, r2, rfl, g2, g3⟩ := h2
    have e3 : r2 = [] := g3
    subst e3
    refine ⟨p, [x1, x2], rfl, grow_t but_grow h1, rfl, x1, [x2], rfl, x2, [], rfl, rfl, ?_⟩
    refine q _ _ h ((rp.setVal i g1).setVal j g2) (by rw [List.length_set, List.length_set]) fun k hk => ?_
    have k1 : i ≠ k := fun e => hk (by rw [e]; simp)
    have k2 : j ≠ k := fun e => hk (by rw [e]; simp)
    rw [List.getElem?_set_ne k2, List.getElem?_set_ne k1, List.getElem?_set_ne k2, List.getElem?_set_ne k1]
    exact ⟨rfl, rfl⟩
  · exact h.elim
theorem Rep.wipe {O : List Addr} {H : Hp} {σ : St} {ρ : DEnv} (r : Rep K c H0 O H σ ρ) (vs : List Nat) : Rep K c H0 O H (L2.wipe σ vs) (dwipe ρ vs) := by
  have no : ∀ (i : Nat) (e : Ent), (dwipe ρ vs)[i]? = some (some e) → i ∉ vs ∧ ρ[i]? = some (some e) := fun i e q => by
    have hi : i < ρ.length := by
      have := (List.getElem?_eq_some_iff.mp q).1
      rwa [dwipe_len] at this
    by_cases z : i ∈ vs
    · rw [dwipe_in ρ hi z] at q; cases q
    · rw [dwipe_get ρ z] at q; exact ⟨z, q⟩
  refine ⟨r.inv0, r.inv, r.ent, r.fresh, r.liv, by rw [wipe_len, dwipe_len]; exact r.len, fun i d q => ?_, fun i ds q => ?_, fun i j ds es p q1 q2 z1 z2 => ?_⟩
  · obtain ⟨n, q⟩ := no i _ q
    obtain ⟨v, h1, h2⟩ := r.val i d q
    exact ⟨v, by rw [wipe_get σ n]; exact h1, h2⟩
  · obtain ⟨n, q⟩ := no i _ q
    obtain ⟨p, xs, h1, h2⟩ := r.own i ds q
    exact ⟨p, xs, by rw [wipe_get σ n]; exact h1, h2⟩
  · obtain ⟨n1, q1⟩ := no i _ q1
    obtain ⟨n2, q2⟩ := no j _ q2
    rw [wipe_get σ n1] at z1
    rw [wipe_get σ n2] at z2
    exact r.sep i j ds es p q1 q2 z1 z2
/-- one more own address, which no slot holds as its own -/
theorem Rep.more {O : List Addr} {H : Hp} {σ : St} {ρ : DEnv} (r : Rep K c H0 O H σ ρ) {p : Addr} {o : HO} (h : H p = none) : Rep K c H0 (p :: O) (upd H p o) σ ρ := by
  have g : Grow (but H (c.M ++ O)) (but (upd H p o) (c.M ++ p :: O)) := fun a u e => by
    obtain ⟨n, e⟩ := but_some e
    have hne : a ≠ p := ne_of_none e h
    refine but_of (fun z => ?_) (by rw [upd_ne hne]; exact e)
    rcases List.mem_append.mp z with z | z
    · exact n (List.mem_append_left _ z)
    · rcases List.mem_cons.mp z with z | z
      · exact hne z
      · exact n (List.mem_append_right _ z)
  have gg : Grow H (upd H p o) := Grow.new h
  refine ⟨r.inv0, c.st _ _ gg r.inv, r.ent.trans (Ex.of gg), fun a ha => ?_, fun a ha => ?_, r.len, fun i d q => ?_, fun i ds q => ?_, r.sep⟩
  · rcases List.mem_cons.mp ha with e | ha
    · rw [e]; exact r.new0 h
    · exact r.fresh a ha
  · rcases List.mem_cons.mp ha with e | ha
    · rw [e, upd_same]; intro z; cases z
    · exact gg.live (r.liv a ha)
  · obtain ⟨v, h1, h2⟩ := r.val i d q
    exact ⟨v, h1, R.grow g d v h2⟩
  · obtain ⟨q', xs, h1, h2, h3, h4⟩ := r.own i ds q
    exact ⟨q', xs, h1, List.mem_cons_of_mem _ h2, gg _ _ h3, RA.grow g ds xs h4⟩
/-- an own address that no slot holds: its list is stored anew -/
theorem Rep.store {O : List Addr} {H : Hp} {σ : St} {ρ : DEnv} (r : Rep K c H0 O H σ ρ) {p : Addr} (hp : p ∈ O) (o : HO) (hno : ∀ (i : Nat) (ds : List D), ρ[i]? = some (some (Ent.own ds)) → σ[i]? ≠ some (some (.ref p))) : Rep K c H0 O (upd H p o) σ ρ := by
  have g : Grow (but H (c.M ++ O)) (but (upd H p o) (c.M ++ O)) := fun a u e => by
    obtain ⟨n, e⟩ := but_some e
    have hne : a ≠ p := fun z => n (List.mem_append_right _ (z ▸ hp))
    exact but_of n (by rw [upd_ne hne]; exact e)
  have gM : ∀ a u, H a = some u → a ≠ p → upd H p o a = some u := fun a u e n => by rw [upd_ne n]; exact e
  have hpM : p ∉ c.M := r.notM hp
  have iv : c.I (upd H p o) := c.mu H _ p r.inv gM hpM fun b e z => (r.bagO b e).1 (z ▸ hp)
  refine ⟨r.inv0, iv, fun a u e n => ?_, r.fresh, fun a ha => ?_, r.len, fun i d q => ?_, fun i ds q => ?_, r.sep⟩
  · have hne : a ≠ p := fun z => by rw [z, r.fresh p hp] at e; cases e
    rw [upd_ne hne]
    exact r.ent a u e n
  · by_cases e : a = p
    · rw [e, upd_same]; intro z; cases z
    · rw [upd_ne e]; exact r.liv a ha
  · obtain ⟨v, h1, h2⟩ := r.val i d q
    exact ⟨v, h1, R.grow g d v h2⟩
  · obtain ⟨q', xs, h1, h2, h3, h4⟩ := r.own i ds q
    have hne : q' ≠ p := fun z => hno i ds q (z ▸ h1)
    exact ⟨q', xs, h1, h2, by rw [upd_ne hne]; exact h3, RA.grow g ds xs h4⟩
end
end QD

/-! QD6: comprehensions, loops, own lists, calls, a def's promise by data. -/
namespace QD
open PySem L2

section
variable {K : PySem.W.Frag} {c : Fm} {H0 : Hp} {ta tb te : TE} {da db de : DE}
/-- an own address that no slot holds is let go -/
theorem Rep.less {O : List Addr} {p : Addr} {H : Hp} {σ : St} {ρ : DEnv} (r : Rep K c H0 (p :: O) H σ ρ) (hno : ∀ (i : Nat) (ds : List D), ρ[i]? = some (some (Ent.own ds)) → σ[i]? ≠ some (some (.ref p))) : Rep K c H0 O H σ ρ := by
  have g : Grow (but H (c.M ++ p :: O)) (but H (c.M ++ O)) := but_le fun a z => (List.mem_append.mp z).elim (fun q => List.mem_append_left _ q) fun q => List.mem_append_right _ (List.mem_cons_of_mem _ q)
  refine ⟨r.inv0, r.inv, r.ent, fun a h => r.fresh a (List.mem_cons_of_mem _ h), fun a h => r.liv a (List.mem_cons_of_mem _ h), r.len, fun i d q => ?_, fun i ds q => ?_, r.sep⟩
  · obtain ⟨v, h1, h2⟩ := r.val i d q
    exact ⟨v, h1, R.grow g d v h2⟩
  · obtain ⟨q', xs, h1, h2, h3, h4⟩ := r.own i ds q
    refine ⟨q', xs, h1, ?_, h3, RA.grow g ds xs h4⟩
    rcases List.mem_cons.mp h2 with e | h2
    · exact absurd (e ▸ h1) (hno i ds q)
    · exact h2
theorem Rep.own_ne {O : List Addr} {H : Hp} {σ : St} {ρ : DEnv} (r : Rep K c H0 O H σ ρ) {p : Addr} (h : H p = none) : ∀ (i : Nat) (ds : List D), ρ[i]? = some (some (Ent.own ds)) → σ[i]? ≠ some (some (.ref p)) := fun i ds q e => by
  obtain ⟨q', xs, h1, h2, h3, h4⟩ := r.own i ds q
  have : q' = p := by
    have := h1.symm.trans e
    injection this with this
    injection this with this
    injection this
  rw [this, h] at h3
  cases h3

/-- the turns of a comprehension -/
def lcGo (dg : DG) (dt : DT) (de : DE) (vs : List Nat) (ρ : DEnv) : List D → List D → (List D → Prop) → Prop
  | acc, [], P => P acc
  | acc, x :: xs, P => dg x (dwipe ρ vs) fun ρ2 => dt ρ2 fun k => if k = true then de ρ2 fun d b => b = false ∧ acc.length < sizeLine ∧ lcGo dg dt de vs ρ (acc ++ [d]) xs P else lcGo dg dt de vs ρ acc xs P
def dLc (di : DI) (dg : DG) (dt : DT) (de : DE) (vs : List Nat) : DE := fun ρ P => di ρ fun xs => lcGo dg dt de vs ρ [] xs fun acc => P (.lst acc) false
theorem Yld.rep {F H : Hp} {x : V} {H' : Hp} {d : D} {O : List Addr} {σ : St} {ρ : DEnv} (y : Yld K F H x H' d) (rp : Rep K c H0 O H σ ρ) (g : Grow F (but H (c.M ++ O))) : Grow H H' ∧ Rep K c H0 O H' σ ρ ∧ R K (but H' (c.M ++ O)) d x := by
  rcases y with ⟨rfl, r⟩ | ⟨T, a, b, x1, x2, rfl, rfl, hT, rfl, r1, r2⟩
  · exact ⟨Grow.refl _, rp, R.grow g d x r⟩
  · have hn := rp.new hT
    have gr : Grow H (upd H T (.tup [x1, x2])) := Grow.new hT
    have ex : Ex c.S H (upd H T (.tup [x1, x2])) := Ex.new hT
    have g2 := g.ex (c := c) (O := O) ex
    exact ⟨gr, rp.up ex (c.st _ _ gr rp.inv), T, [x1, x2], rfl, .inl (.inl (but_of hn upd_same)), x1, [x2], rfl, R.grow g2 a x1 r1, x2, [], rfl, R.grow g2 b x2 r2, rfl⟩
theorem sim_yes : SimT K c H0 tYes (fun _ P => P true) := fun ρ P h O σ H Q rp q => q true H h rp (Ex.refl H)
theorem drop_cons_of {α : Type} {xs : List α} {i : Nat} (h : i < xs.length) : xs.drop i = xs[i] :: xs.drop (i + 1) := List.drop_eq_getElem_cons h
theorem sim_lc {wi : TI} {di : DI} {g : TG} {dg : DG} {tt : TT} {dt : DT} {vs : List Nat} (hi : SimI K c H0 wi di) (hg : SimGn K c H0 g dg vs) (ht : SimT K c H0 tt dt) (he : SimE K c H0 te de) : SimE K c H0 (tLc wi g tt te vs) (dLc di dg dt de vs) := by
  intro ρ P h O σ H Q rp q
  refine hi ρ _ h O σ H _ rp fun J xs H1 h1 rp1 e1 w => ?_
  intro D hD
  obtain ⟨G, Y, wk, hG, hY⟩ := w
  have rpD := rp1.more (o := HO.lst []) hD
  have hnM := rp1.new hD
  have hno := rp1.own_ne hD
  have gD : Grow (but H1 (c.M ++ O)) (but (upd H1 D (.lst [])) (c.M ++ D :: O)) := fun a u e => by
    obtain ⟨n, e⟩ := but_some e
    have hne : a ≠ D := ne_of_none e hD
    refine but_of (fun z => ?_) (by rw [upd_ne hne]; exact e)
    rcases List.mem_append.mp z with z | z
    · exact n (List.mem_append_left _ z)
    · rcases List.mem_cons.mp z with z | z
      · exact hne z
      · exact n (List.mem_append_right _ z)
  refine lc_it wk (fun i H2 => ∃ av ad, Rep K c H0 (D :: O) H2 σ ρ ∧ H2 D = some (.lst av) ∧ RA K (but H2 (c.M ++ D :: O)) ad av ∧ Ex c.S H1 H2 ∧ Grow (but H1 (c.M ++ O)) (but H2 (c.M ++ D :: O)) ∧ lcGo dg dt de vs ρ ad (xs.drop i) (fun acc => P (.lst acc) false))
    ⟨[], [], rpD, upd_same, rfl, Ex.new hD, gD, h1⟩ (fun i H2 _ ⟨av, ad, _, _, _, _, gg, _⟩ => hG H2 (gg.trans but_grow)) (fun i x H2 H3 hlt ⟨av, ad, rp2, hD2, ra2, ex2, g2, lg⟩ y => ?_) fun H2 ⟨av, ad, rp2, hD2, ra2, ex2, g2, lg⟩ => ?_
  · rw [drop_cons_of hlt] at lg
    obtain ⟨gr3, rp3, rx3⟩ := (hY i H2 x H3 _ (List.getElem?_eq_getElem hlt) y).rep rp2 g2
    have hD3 := gr3 _ _ hD2
    have ra3 : RA K (but H3 (c.M ++ D :: O)) ad av := RA.grow (Ex.but (S := []) (Ex.of gr3) (fun a z => by simp at z)) _ _ ra2
    have g3 : Grow (but H1 (c.M ++ O)) (but H3 (c.M ++ D :: O)) := g2.trans (Ex.but (S := []) (Ex.of gr3) (fun a z => by simp at z))
    have rpw := rp3.wipe vs
    refine hg xs[i] _ _ lg x (D :: O) (wipe σ vs) H3 _ rpw rx3 fun ρ2 σ2 lg2 rp4 hl4 same4 => ?_
    refine ⟨?_, ?_⟩
    · have e1 : wipe σ2 vs = wipe (wipe σ vs) vs := wipe_ext hl4 fun k hk => (same4 k hk).1
      rw [e1]
      exact wipe_ext (wipe_len σ vs) fun k hk => wipe_get σ hk
    · refine ht ρ2 _ lg2 (D :: O) σ2 H3 _ rp4 fun k H4 lg4 rp5 e5 => ?_
      have hDS : D ∉ c.S := rp2.notS List.mem_cons_self
      cases k with
      | false =>
        refine ⟨av, ad, rp3.up e5 rp5.inv, e5 _ _ hD3 hDS, RA.grow (e5.but fun a z => List.mem_append_left _ (c.sub a z)) _ _ ra3, (ex2.trans (Ex.of gr3)).trans e5, g3.ex e5, ?_⟩
        exact lg4
      | true =>
        have lg4 : de ρ2 fun d b => b = false ∧ ad.length < sizeLine ∧ lcGo dg dt de vs ρ (ad ++ [d]) (xs.drop (i + 1)) (fun acc => P (.lst acc) false) := lg4
        show te σ2 H4 _
        refine he ρ2 _ lg4 (D :: O) σ2 H4 _ rp5 fun y d b H5 lg5 rp6 e6 ry => ?_
        obtain ⟨hb, hsz, lg6⟩ := lg5
        subst hb
        have e56 := e5.trans e6
        have hD5 := e56 _ _ hD3 hDS
        have ra5 : RA K (but H5 (c.M ++ D :: O)) ad av := RA.grow (e56.but fun a z => List.mem_append_left _ (c.sub a z)) _ _ ra3
        refine ⟨av, hD5, by rw [ra5.length]; exact hsz, av ++ [y], ad ++ [d], (rp3.up e56 rp6.inv).store List.mem_cons_self _ hno, upd_same, ?_, ?_, ?_, lg6⟩
        · refine RA.grow (fun a u e => ?_) _ _ (ra5.snoc ry)
          obtain ⟨n, e⟩ := but_some e
          have hne : a ≠ D := fun z => n (List.mem_append_right _ (z ▸ List.mem_cons_self))
          exact but_of n (by rw [upd_ne hne]; exact e)
        · intro a u e n
          have hne : a ≠ D := ne_of_none e hD
          rw [upd_ne hne]
          exact ((ex2.trans (Ex.of gr3)).trans e56) a u e n
        · refine (g3.ex e56).trans fun a u e => ?_
          obtain ⟨n, e⟩ := but_some e
          have hne : a ≠ D := fun z => n (List.mem_append_right _ (z ▸ List.mem_cons_self))
          exact but_of n (by rw [upd_ne hne]; exact e)
  · rw [List.drop_length] at lg
    have rpf := rp2.less hno
    refine q _ _ false H2 lg rpf (e1.trans ex2) ⟨D, av, rfl, but_of hnM hD2, ?_⟩
    exact RA.grow (but_le fun a z => (List.mem_append.mp z).elim (fun q => List.mem_append_left _ q) fun q => List.mem_append_right _ (List.mem_cons_of_mem _ q)) _ _ ra2

/-! ### for -/
def dLoop (dg : DG) (body : DS) (Dd : DEnds) : List D → DEnv → Prop
  | [], ρ => Dd.nx ρ
  | x :: xs, ρ => dg x ρ fun ρ2 => body { nx := dLoop dg body Dd xs, rt := Dd.rt, bk := Dd.nx, ct := dLoop dg body Dd xs } ρ2
def dFor (di : DI) (dg : DG) (body : DS) : DS := fun Dd ρ => di ρ fun xs => dLoop dg body Dd xs ρ
theorem sim_for {wi : TI} {di : DI} {g : TG} {dg : DG} {tb : TS} {db : DS} (hi : SimI K c H0 wi di) (hg : SimG K c H0 g dg) (hb : SimS K c H0 tb db) : SimS K c H0 (tFor wi g tb) (dFor di dg db) := by
  intro Dd ρ h O σ H Dn F rp gF R
  refine hi ρ _ h O σ H _ rp fun J xs H1 h1 rp1 e1 w => ?_
  obtain ⟨G, Y, wk, hG, hY⟩ := w
  have gF1 := gF.ex e1
  refine for_it wk (fun i σ2 H2 => ∃ ρ2 O2, Rep K c H0 O2 H2 σ2 ρ2 ∧ Grow (but H1 (c.M ++ O)) (but H2 (c.M ++ O2)) ∧ dLoop dg db Dd (xs.drop i) ρ2)
    ⟨ρ, O, rp1, Grow.refl _, h1⟩ (fun i σ2 H2 _ ⟨ρ2, O2, _, gg, _⟩ => hG H2 (gg.trans but_grow)) (fun i x σ2 H2 H3 hlt ⟨ρ2, O2, rp2, g2, lp⟩ y => ?_) fun σ2 H2 ⟨ρ2, O2, rp2, g2, lp⟩ => ?_
  · rw [drop_cons_of hlt] at lp
    obtain ⟨gr3, rp3, rx3⟩ := (hY i H2 x H3 _ (List.getElem?_eq_getElem hlt) y).rep rp2 g2
    have g3 : Grow (but H1 (c.M ++ O)) (but H3 (c.M ++ O2)) := g2.trans (Ex.but (S := []) (Ex.of gr3) (fun a z => by simp at z))
    refine hg xs[i] ρ2 _ lp x O2 σ2 H3 _ rp3 rx3 fun ρ4 σ4 lp4 rp4 => ?_
    refine hb _ ρ4 lp4 O2 σ4 H3 _ (but H1 (c.M ++ O)) rp4 g3 ⟨fun ρ5 O5 σ5 H5 h5 rp5 g5 => ⟨ρ5, O5, rp5, g5, h5⟩, R.rt, fun ρ5 O5 σ5 H5 h5 rp5 g5 => R.nx ρ5 O5 σ5 H5 h5 rp5 (gF1.trans g5), fun ρ5 O5 σ5 H5 h5 rp5 g5 => ⟨ρ5, O5, rp5, g5, h5⟩⟩
  · rw [List.drop_length] at lp
    exact R.nx ρ2 O2 σ2 H2 lp rp2 (gF1.trans g2)

/-! ### while -/
def dWhile (t : DT) (body : DS) : DS := fun Dd ρ => ∃ W : Nat → DEnv → Prop, (∃ m, W m ρ) ∧ ∀ m ρ, W m ρ → t ρ fun k => if k = true then body { nx := fun ρ' => ∃ m', m' < m ∧ W m' ρ', rt := Dd.rt, bk := Dd.nx, ct := fun ρ' => ∃ m', m' < m ∧ W m' ρ' } ρ else Dd.nx ρ
theorem sim_while {t : TT} {dt : DT} {tb : TS} {db : DS} (ht : SimT K c H0 t dt) (hb : SimS K c H0 tb db) : SimS K c H0 (tWhile t tb) (dWhile dt db) := by
  intro Dd ρ h O σ H Dn F rp gF R
  obtain ⟨W, ⟨m0, w0⟩, turn⟩ := h
  refine ⟨fun m σ2 H2 => ∃ ρ2 O2, Rep K c H0 O2 H2 σ2 ρ2 ∧ Grow F (but H2 (c.M ++ O2)) ∧ W m ρ2, ⟨m0, ρ, O, rp, gF, w0⟩, fun m σ2 H2 ⟨ρ2, O2, rp2, g2, w2⟩ => ?_⟩
  refine ht ρ2 _ (turn m ρ2 w2) O2 σ2 H2 _ rp2 fun k H3 h3 rp3 e3 => ?_
  have g3 := g2.ex e3
  cases k with
  | false => exact R.nx ρ2 O2 σ2 H3 h3 rp3 g3
  | true =>
    refine iteT ⟨fun σ4 H4 => ∃ m', m' < m ∧ ∃ ρ4 O4, Rep K c H0 O4 H4 σ4 ρ4 ∧ Grow F (but H4 (c.M ++ O4)) ∧ W m' ρ4, fun σ4 H4 h4 => h4, ?_⟩
    exact hb _ ρ2 h3 O2 σ2 H3 _ F rp3 g3 ⟨fun ρ5 O5 σ5 H5 ⟨m', hm, w5⟩ rp5 g5 => ⟨m', hm, ρ5, O5, rp5, g5, w5⟩, R.rt, fun ρ5 O5 σ5 H5 h5 rp5 g5 => R.nx ρ5 O5 σ5 H5 h5 rp5 g5, fun ρ5 O5 σ5 H5 ⟨m', hm, w5⟩ rp5 g5 => ⟨m', hm, ρ5, O5, rp5, g5, w5⟩⟩
end
end QD

/-! QD7: own lists, calls, a def's promise by data. -/
namespace QD
open PySem L2

section
variable {K : PySem.W.Frag} {c : Fm} {H0 : Hp} {ta tb te : TE} {da db de : DE}
def ownE : Option (Option Ent) → (List D → Prop) → Prop
  | some (some (.own ds)), Q => Q ds
  | _, _ => False
theorem ownE_congr {x y : Option (Option Ent)} {P : List D → Prop} (h : x = y) : ownE x P = ownE y P := by rw [h]
def dEntOwn (ρ : DEnv) (i : Nat) (Q : List D → Prop) : Prop := ownE ρ[i]? Q
theorem entOwn {ρ : DEnv} {i : Nat} {Q : List D → Prop} (h : dEntOwn ρ i Q) : ∃ ds, ρ[i]? = some (some (Ent.own ds)) ∧ Q ds := by
  unfold dEntOwn ownE at h
  split at h
  · rename_i ds e
    exact ⟨ds, e, h⟩
  · exact h.elim
theorem Rep.setOwn {O : List Addr} {p : Addr} {H : Hp} {σ : St} {ρ : DEnv} (r : Rep K c H0 O H σ ρ) (i : Nat) {ds : List D} {xs : List V} (hp : p ∈ O) (hx : H p = some (.lst xs)) (ra : RA K (but H (c.M ++ O)) ds xs)
    (hno : ∀ (j : Nat) (es : List D), j ≠ i → ρ[j]? = some (some (Ent.own es)) → σ[j]? ≠ some (some (.ref p))) : Rep K c H0 O H (σ.set i (some (.ref p))) (ρ.set i (some (Ent.own ds))) := by
  have at_ : ∀ {e : Option Ent}, (ρ.set i (some (Ent.own ds)))[i]? = some e → e = some (Ent.own ds) ∧ i < ρ.length := fun {e} q => by
    have hl : i < ρ.length := by
      have := (List.getElem?_eq_some_iff.mp q).1
      rwa [List.length_set] at this
    rw [List.getElem?_set_self hl] at q
    cases q
    exact ⟨rfl, hl⟩
  refine ⟨r.inv0, r.inv, r.ent, r.fresh, r.liv, by rw [List.length_set, List.length_set]; exact r.len, fun k e q => ?_, fun k es q => ?_, fun k j es fs q' q1 q2 z1 z2 => ?_⟩
  · have hk : i ≠ k := fun hk => by
      subst hk
      obtain ⟨z, _⟩ := at_ q
      cases z
    rw [List.getElem?_set_ne hk] at q
    obtain ⟨u, h1, h2⟩ := r.val k e q
    exact ⟨u, by rw [List.getElem?_set_ne hk]; exact h1, h2⟩
  · by_cases hk : i = k
    · subst hk
      obtain ⟨z, hl⟩ := at_ q
      cases z
      exact ⟨p, xs, List.getElem?_set_self (by rw [r.len]; exact hl), hp, hx, ra⟩
    · rw [List.getElem?_set_ne hk] at q
      obtain ⟨q', ys, h1, h2⟩ := r.own k es q
      exact ⟨q', ys, by rw [List.getElem?_set_ne hk]; exact h1, h2⟩
  · by_cases hk : i = k
    · by_cases hj : i = j
      · rw [← hk, ← hj]
      · subst hk
        obtain ⟨z, hl⟩ := at_ q1
        rw [List.getElem?_set_self (by rw [r.len]; exact hl)] at z1
        rw [List.getElem?_set_ne hj] at q2 z2
        injection z1 with z1
        injection z1 with z1
        injection z1 with z1
        rw [← z1] at z2
        exact absurd z2 (hno j fs (fun e => hj e.symm) q2)
    · rw [List.getElem?_set_ne hk] at q1 z1
      by_cases hj : i = j
      · subst hj
        obtain ⟨z, hl⟩ := at_ q2
        rw [List.getElem?_set_self (by rw [r.len]; exact hl)] at z2
        injection z2 with z2
        injection z2 with z2
        injection z2 with z2
        rw [← z2] at z1
        exact absurd z1 (hno k es (fun e => hk e.symm) q1)
      · rw [List.getElem?_set_ne hj] at q2 z2
        exact r.sep k j es fs q' q1 q2 z1 z2

/-! ### an expression that makes a new list -/
abbrev DN := DEnv → (List D → Prop) → Prop
def SimN (K : PySem.W.Frag) (c : Fm) (H0 : Hp) (te : TE) (dn : DN) : Prop := ∀ ρ P, dn ρ P → ∀ O σ H Q, Rep K c H0 O H σ ρ →
  (∀ p xs ds H', P ds → Rep K c H0 (p :: O) H' σ ρ → (∀ (i : Nat) (es : List D), ρ[i]? = some (some (Ent.own es)) → σ[i]? ≠ some (some (.ref p))) → H' p = some (.lst xs) → RA K (but H' (c.M ++ p :: O)) ds xs →
    Grow (but H (c.M ++ O)) (but H' (c.M ++ p :: O)) → Ex c.S H H' → p ∉ O → Q (.ref p) H') → te σ H Q
def dnLst (da : DA) : DN := fun ρ P => da ρ fun xs b => b = false ∧ xs.length ≤ sizeLine ∧ P xs
def dnListOf (da : DE) : DN := fun ρ P => da ρ fun d b => b = false ∧ optP d.items P
def dnLc (di : DI) (dg : DG) (dt : DT) (de : DE) (vs : List Nat) : DN := fun ρ P => di ρ fun xs => lcGo dg dt de vs ρ [] xs P
theorem grow_new {O : List Addr} {H : Hp} {p : Addr} {o : HO} (h : H p = none) : Grow (but H (c.M ++ O)) (but (upd H p o) (c.M ++ p :: O)) := fun a u e => by
  obtain ⟨n, e⟩ := but_some e
  have hne : a ≠ p := ne_of_none e h
  refine but_of (fun z => ?_) (by rw [upd_ne hne]; exact e)
  rcases List.mem_append.mp z with z | z
  · exact n (List.mem_append_left _ z)
  · rcases List.mem_cons.mp z with z | z
    · exact hne z
    · exact n (List.mem_append_right _ z)
theorem sn_lst {t : TA} {dt : DA} (ha : SimA K c H0 t dt) : SimN K c H0 (tLst t) (dnLst dt) := by
  intro ρ P h O σ H Q rp q
  refine ha ρ _ h O σ H _ rp fun vs xs b H1 h1 rp1 e1 rx => ?_
  obtain ⟨hb, h2, h3⟩ := h1
  subst hb
  refine ⟨by rw [rx.len]; exact h2, fun p hp => ?_⟩
  exact q p vs xs _ h3 (rp1.more hp) (rp1.own_ne hp) upd_same (RA.grow (grow_new hp) _ _ rx) ((e1.but fun a z => List.mem_append_left _ (c.sub a z)).trans (grow_new hp)) (e1.trans (Ex.new hp)) (fun z => rp1.new hp (List.mem_append_right _ z))
theorem sn_listOf (ha : SimE K c H0 ta da) : SimN K c H0 (tCB (rListOf K) (tCons ta tNil)) (dnListOf da) := by
  intro ρ P h O σ H Q rp q
  refine ha ρ _ h O σ H _ rp fun v x b H1 h1 rp1 e1 rx => ?_
  obtain ⟨hb, h2⟩ := h1
  subst hb
  obtain ⟨ds, e, h2⟩ := optP_some h2
  have g1 := e1.but (M := c.M ++ O) fun a z => List.mem_append_left _ (c.sub a z)
  cases x with
  | lst _ =>
    cases e
    obtain ⟨a, xs, rfl, z1, z2⟩ := id rx
    exact ⟨a, xs, rfl, .inl (.inl (.inl (tracked_of z1))), fun p hp => q p xs _ _ h2 (rp1.more hp) (rp1.own_ne hp) upd_same (RA.grow (grow_new hp) _ _ z2) (g1.trans (grow_new hp)) (e1.trans (Ex.new hp)) (fun z => rp1.new hp (List.mem_append_right _ z))⟩
  | tup _ =>
    cases e
    obtain ⟨a, xs, rfl, z1, z2⟩ := id rx
    exact ⟨a, xs, rfl, .inr (grow_t but_grow z1), fun p hp => q p xs _ _ h2 (rp1.more hp) (rp1.own_ne hp) upd_same (RA.grow (grow_new hp) _ _ z2) (g1.trans (grow_new hp)) (e1.trans (Ex.new hp)) (fun z => rp1.new hp (List.mem_append_right _ z))⟩
  | non => cases e
  | bl _ => cases e
  | int _ => cases e
  | str _ => cases e
  | ins _ _ => cases e
  | raw _ => cases e
/-- x = (a new list), which x owns from then on -/
def tAsgO (te : TE) (i : Nat) : TS := tAsg te (gName i)
def dAsgO (dn : DN) (i : Nat) : DS := fun Dd ρ => dn ρ fun ds => Dd.nx (ρ.set i (some (Ent.own ds)))
theorem sim_asgO {dn : DN} {i : Nat} (h : SimN K c H0 te dn) : SimS K c H0 (tAsgO te i) (dAsgO dn i) := by
  intro Dd ρ hd O σ H Dn F rp g R
  exact h ρ _ hd O σ H _ rp fun p xs ds H' hn rp' hno hx ra gr _ _ => R.nx _ (p :: O) _ H' hn (rp'.setOwn i List.mem_cons_self hx ra fun j es _ => hno j es) (g.trans gr)

/-! ### an expression that may change own lists -/
abbrev DX := DEnv → (D → DEnv → Prop) → Prop
def SimX (K : PySem.W.Frag) (c : Fm) (H0 : Hp) (te : TE) (dx : DX) : Prop := ∀ ρ P, dx ρ P → ∀ O σ H Q, Rep K c H0 O H σ ρ →
  (∀ v d ρ' H', P d ρ' → Rep K c H0 O H' σ ρ' → Grow (but H (c.M ++ O)) (but H' (c.M ++ O)) → R K (but H' (c.M ++ O)) d v → Q v H') → te σ H Q
def dxE (de : DE) : DX := fun ρ P => de ρ fun d b => b = false ∧ P d ρ
def dxIf (t : DT) (a b : DX) : DX := fun ρ P => t ρ fun k => if k = true then a ρ P else b ρ P
theorem sx_E (h : SimE K c H0 te de) : SimX K c H0 te (dxE de) := by
  intro ρ P hd O σ H Q rp q
  refine h ρ _ hd O σ H _ rp fun v d b H1 h1 rp1 e1 rx => ?_
  obtain ⟨hb, h2⟩ := h1
  subst hb
  exact q v d ρ H1 h2 rp1 (e1.but fun a z => List.mem_append_left _ (c.sub a z)) rx
theorem sx_if {t : TT} {dt : DT} {dx dy : DX} (ht : SimT K c H0 t dt) (ha : SimX K c H0 ta dx) (hb : SimX K c H0 tb dy) : SimX K c H0 (tIf t ta tb) (dxIf dt dx dy) := by
  intro ρ P h O σ H Q rp q
  refine ht ρ _ h O σ H _ rp fun k H1 h1 rp1 e1 => ?_
  have g1 := e1.but (M := c.M ++ O) fun a z => List.mem_append_left _ (c.sub a z)
  cases k with
  | true => exact ha ρ _ h1 O σ H1 _ rp1 fun v d ρ' H2 h2 rp2 g2 => q v d ρ' H2 h2 rp2 (g1.trans g2)
  | false => exact hb ρ _ h1 O σ H1 _ rp1 fun v d ρ' H2 h2 rp2 g2 => q v d ρ' H2 h2 rp2 (g1.trans g2)
/-- an own list is changed -/
theorem Rep.chg {O : List Addr} {p : Addr} {H : Hp} {σ : St} {ρ : DEnv} {i : Nat} {ds es : List D} {ys : List V} (r : Rep K c H0 O H σ ρ) (he : ρ[i]? = some (some (Ent.own ds))) (hv : σ[i]? = some (some (.ref p))) (hp : p ∈ O)
    (ra : RA K (but H (c.M ++ O)) es ys) : Rep K c H0 O (upd H p (.lst ys)) σ (ρ.set i (some (Ent.own es))) ∧ Grow (but H (c.M ++ O)) (but (upd H p (.lst ys)) (c.M ++ O)) := by
  have g : Grow (but H (c.M ++ O)) (but (upd H p (.lst ys)) (c.M ++ O)) := fun a u e => by
    obtain ⟨n, e⟩ := but_some e
    have hne : a ≠ p := fun z => n (List.mem_append_right _ (z ▸ hp))
    exact but_of n (by rw [upd_ne hne]; exact e)
  have hi : i < ρ.length := (List.getElem?_eq_some_iff.mp he).1
  have other : ∀ (j : Nat) (fs : List D), j ≠ i → ρ[j]? = some (some (Ent.own fs)) → σ[j]? ≠ some (some (.ref p)) := fun j fs hj e z => hj (r.sep j i fs ds p e he z hv)
  -- the slot i without its list, then with it
  have r1 : Rep K c H0 O H (σ.set i none) (ρ.set i none) := by
    have := r.wipe [i]
    exact this
  have r2 : Rep K c H0 O (upd H p (.lst ys)) (σ.set i none) (ρ.set i none) := r1.store hp _ fun j fs e z => by
    by_cases hj : j = i
    · subst hj
      rw [List.getElem?_set_self hi] at e
      cases e
    · rw [List.getElem?_set_ne (fun q => hj q.symm)] at e z
      exact other j fs hj e z
  have r3 := r2.setOwn i (p := p) (ds := es) (xs := ys) hp upd_same (RA.grow g _ _ ra) fun j fs hj e z => by
    rw [List.getElem?_set_ne (fun q => hj q.symm)] at e z
    exact other j fs hj e z
  rw [List.set_set, List.set_set] at r3
  have e1 : σ.set i (some (.ref p)) = σ := by
    apply List.ext_getElem?
    intro k
    by_cases hk : i = k
    · subst hk
      rw [List.getElem?_set_self (by rw [r.len]; exact hi), hv]
    · rw [List.getElem?_set_ne hk]
  rw [e1] at r3
  exact ⟨r3, g⟩
theorem tyV_lst {H : Hp} {p : Addr} {xs : List V} (h : H p = some (.lst xs)) : tyV K "list" (.ref p) H := Or.inl ⟨rfl, _, Or.inl (Or.inl h)⟩
/-- x.append(e) -/
def dAppend (i : Nat) (dx : DX) : DS := fun Dd ρ => dEntOwn ρ i fun _ => dx ρ fun d ρ' => dEntOwn ρ' i fun ds => ds.length < sizeLine ∧ Dd.nx (ρ'.set i (some (Ent.own (ds ++ [d]))))
theorem sim_append {i : Nat} {dx : DX} (h : SimX K c H0 te dx) : SimS K c H0 (tDrop (tBM K "list" rAppend (tVar i) (tCons te tNil))) (dAppend i dx) := by
  intro Dd ρ hd O σ H Dn F rp g R
  obtain ⟨ds0, e0, hd⟩ := entOwn hd
  obtain ⟨p, xs0, hv, hp, hx, _⟩ := rp.own i ds0 e0
  refine ⟨.ref p, hv, tyV_lst hx, ?_⟩
  refine h ρ _ hd O σ H _ rp fun v d ρ' H1 h1 rp1 g1 rv => ?_
  obtain ⟨ds, e1, hsz, h2⟩ := entOwn h1
  obtain ⟨p', xs, hv', hp', hx', ra⟩ := rp1.own i ds e1
  have : p' = p := by
    have := hv'.symm.trans hv
    injection this with this
    injection this with this
    injection this
  subst this
  obtain ⟨r3, g3⟩ := rp1.chg e1 hv' hp' (ra.snoc rv)
  exact ⟨p', xs, v, rfl, rfl, hx', by rw [ra.length]; exact hsz, R.nx _ O σ _ h2 r3 ((g.trans g1).trans g3)⟩
/-- x.pop(k) -/
def dxPopAt (i : Nat) (de : DE) : DX := fun ρ P => dEntOwn ρ i fun ds => de ρ fun d _ => asInt d fun k => (-9223372036854775808 ≤ k ∧ k < 9223372036854775808) ∧
  optP (seqIndex? k ds.length) fun j => optP ds[j]? fun y => P y (ρ.set i (some (Ent.own (ds.eraseIdx j))))
theorem sx_popAt {i : Nat} (h : SimE K c H0 te de) : SimX K c H0 (tBM K "list" rPopAt (tVar i) (tCons te tNil)) (dxPopAt i de) := by
  intro ρ P hd O σ H Q rp q
  obtain ⟨ds, e0, hd⟩ := entOwn hd
  obtain ⟨p, xs0, hv, hp, hx, _⟩ := rp.own i ds e0
  refine ⟨.ref p, hv, tyV_lst hx, ?_⟩
  refine h ρ _ hd O σ H _ rp fun v d b H1 h1 rp1 e1 rv => ?_
  obtain ⟨k, _, rfl, hk, h1⟩ := rb_int rv h1
  obtain ⟨p', xs, hv', hp', hx', ra⟩ := rp1.own i ds e0
  have : p' = p := by
    have := hv'.symm.trans hv
    injection this with this
    injection this with this
    injection this
  subst this
  have g1 := e1.but (M := c.M ++ O) fun a z => List.mem_append_left _ (c.sub a z)
  obtain ⟨j, ej, h1⟩ := optP_some h1
  obtain ⟨y, ey, h1⟩ := optP_some h1
  obtain ⟨w, f1, f2⟩ := ra.get' ey
  obtain ⟨r3, g3⟩ := rp1.chg e0 hv' hp' (ra.eraseIdx j)
  exact ⟨p', xs, k, j, w, rfl, rfl, hx', hk.1, hk.2, by rw [ra.length]; exact ej, f1, q w y _ _ h1 r3 (g1.trans g3) (R.grow g3 _ _ f2)⟩
/-- x.pop() -/
def dxPop (i : Nat) : DX := fun ρ P => dEntOwn ρ i fun ds => optP ds[ds.length - 1]? fun y => P y (ρ.set i (some (Ent.own ds.dropLast)))
theorem RA.dropLast {H : Hp} {ds : List D} {vs : List V} (h : RA K H ds vs) : RA K H ds.dropLast vs.dropLast := by
  rw [List.dropLast_eq_take, List.dropLast_eq_take, h.length]
  exact h.take _
theorem sx_pop {i : Nat} : SimX K c H0 (tBM0 K "list" rPop (tVar i)) (dxPop i) := by
  intro ρ P hd O σ H Q rp q
  obtain ⟨ds, e0, hd⟩ := entOwn hd
  obtain ⟨p, xs, hv, hp, hx, ra⟩ := rp.own i ds e0
  refine ⟨.ref p, hv, tyV_lst hx, ?_⟩
  obtain ⟨y, ey, hd⟩ := optP_some hd
  obtain ⟨w, f1, f2⟩ := ra.get' ey
  obtain ⟨r3, g3⟩ := rp.chg e0 hv hp ra.dropLast
  exact ⟨p, xs, w, rfl, rfl, hx, by rw [ra.length]; exact f1, q w y _ _ hd r3 g3 (R.grow g3 _ _ f2)⟩
/-- y = (such an expression) -/
def dAsgX (dx : DX) (i : Nat) : DS := fun Dd ρ => dx ρ fun d ρ' => Dd.nx (ρ'.set i (some (Ent.val d)))
theorem sim_asgX {i : Nat} {dx : DX} (h : SimX K c H0 te dx) : SimS K c H0 (tAsg te (gName i)) (dAsgX dx i) := by
  intro Dd ρ hd O σ H Dn F rp g R
  exact h ρ _ hd O σ H _ rp fun v d ρ' H1 h1 rp1 g1 rv => R.nx _ O _ H1 h1 (rp1.setVal i rv) (g.trans g1)
/-- x[k] = e of an own list -/
def dSetIx (i : Nat) (de dk : DE) : DS := fun Dd ρ => de ρ fun d b => dEntOwn ρ i fun ds => dk ρ fun k _ => b = false ∧ asInt k fun k => optP (ixN ds.length k) fun j => Dd.nx (ρ.set i (some (Ent.own (ds.set j d))))
theorem sim_setIx {i : Nat} (he : SimE K c H0 te de) (hk : SimE K c H0 ta da) : SimS K c H0 (tAsg te (gSub (tVar i) ta rSetL)) (dSetIx i de da) := by
  intro Dd ρ hd O σ H Dn F rp g R
  refine he ρ _ hd O σ H _ rp fun v d b H1 h1 rp1 e1 rv => ?_
  obtain ⟨ds, e0, h1⟩ := entOwn h1
  obtain ⟨p, xs0, hv, hp, hx0, _⟩ := rp1.own i ds e0
  refine ⟨.ref p, hv, ?_⟩
  refine hk ρ _ h1 O σ H1 _ rp1 fun u k b' H2 h2 rp2 e2 ru => ?_
  obtain ⟨hb, h2⟩ := h2
  subst hb
  obtain ⟨k', _, rfl, h2⟩ := rb_int ru h2
  obtain ⟨p', xs, hv', hp', hx, ra⟩ := rp2.own i ds e0
  have : p' = p := by
    have := hv'.symm.trans hv
    injection this with this
    injection this with this
    injection this
  subst this
  obtain ⟨j, ej, h2⟩ := optP_some h2
  obtain ⟨r3, g3⟩ := rp2.chg e0 hv' hp' (ra.set j (QD.R.grow (e2.but fun a z => List.mem_append_left _ (c.sub a z)) _ _ rv))
  exact ⟨p', xs, k', j, rfl, rfl, hx, by rw [ra.length]; exact ej, R.nx _ O σ _ h2 r3 ((g.ex (e1.trans e2)).trans g3)⟩
/-- an own list is not changed any more -/
def frz1 (ρ : DEnv) (i : Nat) : Option (Option Ent) → DEnv
  | some (some (.own ds)) => ρ.set i (some (Ent.val (.lst ds)))
  | _ => ρ
def freeze (i : Nat) (ρ : DEnv) : DEnv := frz1 ρ i ρ[i]?
theorem Rep.less2 {O O' : List Addr} {H : Hp} {σ : St} {ρ : DEnv} {i : Nat} {ds : List D} (r : Rep K c H0 O H σ ρ) (he : ρ[i]? = some (some (Ent.own ds))) : ∃ O', Rep K c H0 O' H σ (ρ.set i (some (Ent.val (.lst ds)))) ∧ Grow (but H (c.M ++ O)) (but H (c.M ++ O')) := by
  obtain ⟨p, xs, hv, hp, hx, ra⟩ := r.own i ds he
  have hi : i < ρ.length := (List.getElem?_eq_some_iff.mp he).1
  refine ⟨O.filter fun a => decide (a ≠ p), ?_⟩
  have sub : ∀ a, a ∈ O.filter (fun a => decide (a ≠ p)) → a ∈ O ∧ a ≠ p := fun a h => by
    have := List.mem_filter.mp h
    exact ⟨this.1, of_decide_eq_true this.2⟩
  have g : Grow (but H (c.M ++ O)) (but H (c.M ++ O.filter fun a => decide (a ≠ p))) := but_le fun a z => (List.mem_append.mp z).elim (fun q => List.mem_append_left _ q) fun q => List.mem_append_right _ (sub a q).1
  refine ⟨⟨r.inv0, r.inv, r.ent, fun a h => r.fresh a (sub a h).1, fun a h => r.liv a (sub a h).1, by rw [List.length_set]; exact r.len, fun k d q => ?_, fun k es q => ?_, fun k j es fs q' q1 q2 z1 z2 => ?_⟩, g⟩
  · by_cases hk : i = k
    · subst hk
      rw [List.getElem?_set_self hi] at q
      cases q
      refine ⟨_, hv, p, xs, rfl, but_of (fun z => ?_) hx, RA.grow g _ _ ra⟩
      rcases List.mem_append.mp z with z | z
      · exact r.notM hp z
      · exact (sub p z).2 rfl
    · rw [List.getElem?_set_ne hk] at q
      obtain ⟨v, h1, h2⟩ := r.val k d q
      exact ⟨v, h1, R.grow g d v h2⟩
  · by_cases hk : i = k
    · subst hk
      rw [List.getElem?_set_self hi] at q
      cases q
    · rw [List.getElem?_set_ne hk] at q
      obtain ⟨q', ys, h1, h2, h3, h4⟩ := r.own k es q
      refine ⟨q', ys, h1, List.mem_filter.mpr ⟨h2, decide_eq_true fun z => ?_⟩, h3, RA.grow g _ _ h4⟩
      exact hk (r.sep k i es ds p q he (z ▸ h1) hv).symm
  · have no : ∀ (k : Nat) (es : List D), (ρ.set i (some (Ent.val (.lst ds))))[k]? = some (some (Ent.own es)) → ρ[k]? = some (some (Ent.own es)) := fun k es q => by
      by_cases hk : i = k
      · subst hk
        rw [List.getElem?_set_self hi] at q
        cases q
      · rwa [List.getElem?_set_ne hk] at q
    exact r.sep k j es fs q' (no k es q1) (no j fs q2) z1 z2
def dFreeze (i : Nat) (ds : DS) : DS := fun Dd ρ => ds Dd (freeze i ρ)
theorem sim_freeze (i : Nat) {ts : TS} {ds : DS} (h : SimS K c H0 ts ds) : SimS K c H0 ts (dFreeze i ds) := by
  intro Dd ρ hd O σ H Dn F rp g R
  unfold dFreeze freeze frz1 at hd
  split at hd
  · rename_i es e
    obtain ⟨O', rp', g'⟩ := rp.less2 (O' := O) e
    exact h Dd _ hd O' σ H Dn F rp' (g.trans g') R
  · exact h Dd ρ hd O σ H Dn F rp g R
end

/-! ### calls -/
abbrev DEr := Addr → List (Str × D) → Prop
abbrev DF := Option (Addr × Addr) → List D → (D → Prop) → DEr → Prop
/-- a def's promise by data -/
def spD (K : PySem.W.Frag) (n : Nat) (dT : DF) : Sp := fun vs H Q E => ∃ (c : Fm) (ds : List D) (P : D → Prop) (Er : DEr), ds.length = n ∧ c.I H ∧ RA K (but H c.M) ds vs ∧ dT c.bag ds P Er ∧
  (∀ v d H', P d → c.I H' → Ex c.S H H' → R K (but H' c.M) d v → Q v H') ∧
  (∀ C d gs fs H', Er C fs → c.I H' → Ex c.S H H' → H' d = some (.xd gs) → RF K (but H' c.M) fs gs → E (.ref C) (some d) H')
def dCall (bag : Option (Addr × Addr)) (n : Nat) (dT : DF) (dd : List D) (da : DA) : DE := fun ρ P => da ρ fun xs b => (xs ++ dd).length = n ∧ dT bag (xs ++ dd) (fun z => P z (dirt z b)) fun _ _ => False
section
variable {K : PySem.W.Frag} {c : Fm} {H0 : Hp}
theorem sim_callD {n : Nat} {dT : DF} {dvs : List V} {dd : List D} {E : XK} {t : TA} {da : DA} (hd : ∀ H, RA K H dd dvs) (ha : SimA K c H0 t da) : SimE K c H0 (tCall (spD K n dT) dvs E t) (dCall c.bag n dT dd da) := by
  intro ρ P h O σ H Q rp q
  refine ha ρ _ h O σ H _ rp fun vs xs b H1 h1 rp1 e1 rx => ?_
  cases b with
  | true => exact ⟨c, xs ++ dd, _, _, h1.1, rp1.inv, RA.app rx (hd _), h1.2, fun v d H' hp i ex r => q v d _ H' hp (rp1.up ex i) (e1.trans ex) (RB.dirt (b := true) r), fun C d gs fs H' hf => hf.elim⟩
  | false => exact ⟨rp1.fm, xs ++ dd, _, _, h1.1, ⟨rp1.inv, rp1.liv⟩, RA.app rx (hd _), h1.2, fun v d H' hp i ex r => q v d _ H' hp (rp1.up ex i.1) (e1.trans ex) (RB.dirt (b := false) r), fun C d gs fs H' hf => hf.elim⟩
theorem sim_call {n : Nat} {dT : DF} {E : XK} {t : TA} {da : DA} (ha : SimA K c H0 t da) : SimE K c H0 (tCall (spD K n dT) [] E t) (dCall c.bag n dT [] da) := sim_callD (dd := []) (fun _ => rfl) ha
end

/-! ### a def -/
def dstart (n : Nat) (ds : List D) : DEnv := ds.map (fun d => some (Ent.val d)) ++ List.replicate (n - ds.length) none
theorem rep_start {K : PySem.W.Frag} {c : Fm} {H : Hp} {N : List Str} {ds : List D} {vs : List V} (i : c.I H) (ra : RA K (but H c.M) ds vs) : Rep K c H [] H (L2.start N vs) (dstart N.length ds) := by
  have hl := ra.length
  refine ⟨i, i, Ex.refl H, fun a h => by simp at h, fun a h => by simp at h, ?_, fun k d q => ?_, fun k es q => ?_, fun k j es fs p q1 q2 => ?_⟩
  · unfold L2.start dstart
    rw [List.length_append, List.length_append, List.length_map, List.length_map, List.length_replicate, List.length_replicate, hl]
  · unfold dstart at q
    unfold L2.start
    by_cases hk : k < ds.length
    · rw [List.getElem?_append_left (by simpa using hk), List.getElem?_map] at q
      rw [List.getElem?_append_left (by simpa [hl] using hk), List.getElem?_map]
      obtain ⟨e, e1, e2⟩ := Option.map_eq_some_iff.mp q
      cases e2
      obtain ⟨v, h1, h2⟩ := ra.get' e1
      exact ⟨v, by rw [h1]; rfl, by rw [List.append_nil]; exact h2⟩
    · rw [List.getElem?_append_right (by simpa using hk), List.getElem?_replicate] at q
      split at q <;> cases q
  · unfold dstart at q
    by_cases hk : k < ds.length
    · rw [List.getElem?_append_left (by simpa using hk), List.getElem?_map] at q
      obtain ⟨e, e1, e2⟩ := Option.map_eq_some_iff.mp q
      cases e2
    · rw [List.getElem?_append_right (by simpa using hk), List.getElem?_replicate] at q
      split at q <;> cases q
  · unfold dstart at q1
    by_cases hk : k < ds.length
    · rw [List.getElem?_append_left (by simpa using hk), List.getElem?_map] at q1
      obtain ⟨e, e1, e2⟩ := Option.map_eq_some_iff.mp q1
      cases e2
    · rw [List.getElem?_append_right (by simpa using hk), List.getElem?_replicate] at q1
      split at q1 <;> cases q1
theorem okD {P : Program} {w : World} {K : PySem.W.Frag} {mg : Str → Option Value} {base : Heap} {x qual : Str} {st : Stmt} {f : Addr} {fd : FuncData} {N ps : List Str} {k n : Nat} {dT : DF} (F : Fun K x qual st f fd) (S : FnScope N ps (defScope st)) (hn : ps.length = n)
    (hbody : ∀ (cdv : Value) (A : Around) (outer : List Env) (s : Shared) (H : Hp) (E : XK) (c : Fm), Room k (A.deeper (PyProof.Rows.envOfC qual (defScope st) s.heap.objs.size f cdv)) →
      ∃ ts dsb, PSs (cxOf CX0 P w K mg base N qual (defScope st) f cdv A outer s H E).nox (defBody st) ts ∧ SimS K c H ts dsb ∧ ∀ ds Pd Er, ds.length = n → dT c.bag ds Pd Er → dsb { nx := fun _ => Pd .non, rt := Pd } (dstart N.length ds)) :
    FnOk P w K mg base CX0 (k + 1) f fd ps (spD K n dT) := by
  refine F.ok S (fun vs H Q E h => ?_) (fun cdv A outer s H vs Q E hr h => ?_)
  · obtain ⟨c, ds, _, _, hl, _, ra, _⟩ := h
    rw [ra.length, hl, hn]
  · obtain ⟨c, ds, Pd, Er, hl, i, ra, hd, q, qe⟩ := h
    obtain ⟨ts, dsb, hp, hs, hb⟩ := hbody cdv A outer s H E c hr
    refine ⟨ts, hp, ?_⟩
    refine hs _ _ (hb ds Pd Er hl hd) [] _ H _ (but H c.M) (rep_start i ra) (by rw [List.append_nil]; exact Grow.refl _) ⟨fun ρ O σ H' h rp _ => q _ _ H' h rp.inv rp.ent rfl, fun v d H' h i ex r => q v d H' h i ex r, fun ρ O σ H' h => h.elim, fun ρ O σ H' h => h.elim⟩
end QD

/-! QD8: zip, enumerate, keywords, two names at once, powers. -/
namespace QD
open PySem L2

def rPow : R2 := rI CPow fun i j => .int (i ^ j.toNat)
theorem q_pow {X : Cx} : OpR X (binaryOp .Pow) rPow := op_pow
abbrev dPow : DR := dIC CPow fun i j => .int (i ^ j.toNat)
section
variable {K : PySem.W.Frag} {c : Fm} {H0 : Hp} {ta tb te : TE} {da db de : DE}
theorem sr_pow : SimR K c H0 rPow dPow := sr_IC fun _ _ _ => rfl
def dNeg : DU
  | .int i, P => P (.int (-i))
  | _, _ => False
theorem su_neg : SimU K c H0 (rU fun i => .int (-i)) dNeg := by
  intro x P h O H Q v b σ ρ rp rx q
  cases x with
  | int i => exact ⟨i, rx, q _ _ H h (Ex.refl H) rp.inv rfl⟩
  | non => exact h.elim
  | bl _ => exact h.elim
  | str _ => exact h.elim
  | lst _ => exact h.elim
  | tup _ => exact h.elim
  | ins _ _ => exact h.elim
  | raw _ => exact h.elim

/-! ### zip of two lists, of two tuples -/
def zipD (xs ys : List D) : List D := (xs.zip ys).map fun p => .tup [p.1, p.2]
def zip2 : D → D → (List D → Prop) → Prop
  | .lst xs, .lst ys, P => P (zipD xs ys)
  | .tup xs, .tup ys, P => P (zipD xs ys)
  | _, _, _ => False
def dZip (a b : DE) : DI := fun ρ P => a ρ fun x c1 => b ρ fun y c2 => (c1 = false ∧ c2 = false) ∧ zip2 x y P
theorem zipD_get {xs ys : List D} {i : Nat} {d : D} (h : (zipD xs ys)[i]? = some d) : ∃ a b, xs[i]? = some a ∧ ys[i]? = some b ∧ d = .tup [a, b] := by
  unfold zipD at h
  rw [List.getElem?_map] at h
  obtain ⟨p, e, rfl⟩ := Option.map_eq_some_iff.mp h
  rw [List.getElem?_zip_eq_some] at e
  exact ⟨p.1, p.2, e.1, e.2, rfl⟩
theorem walkD_zip {F : Hp} {a b : Addr} {xs ys : List V} {ds es : List D} (h1 : SqL K F a xs) (h2 : SqL K F b ys) (r1 : RA K F ds xs) (r2 : RA K F es ys) : WalkD K F (Itz K a b) (zipD ds es) := by
  refine ⟨fun H => SqL K H a xs ∧ SqL K H b ys, YPair (fun i => xs[i]?) (fun i => ys[i]?), ?_, fun H g => ⟨grow_l g h1, grow_l g h2⟩, fun i H x H' d e y => .inr ?_⟩
  · refine walk_zip ?_
    unfold zipD
    rw [List.length_map, List.length_zip, r1.length, r2.length]
  · obtain ⟨T, x1, x2, f1, f2, f3, f4, f5⟩ := y
    obtain ⟨a', b', g1, g2, g3⟩ := zipD_get e
    obtain ⟨v, k1, k2⟩ := r1.get' g1
    obtain ⟨w, k3, k4⟩ := r2.get' g2
    have e1 : x1 = v := by have := f4.symm.trans k1; injection this
    have e2 : x2 = w := by have := f5.symm.trans k3; injection this
    subst e1 e2
    exact ⟨T, a', b', x1, x2, g3, f1, f2, f3, k2, k4⟩
theorem walk_zipT' {a b : Addr} {xs ys : List V} {n : Nat} (hn : n = min xs.length ys.length) : Walk (RZ.ItzT K a b) n (fun H => SqT K H a xs ∧ SqT K H b ys) (YPair (fun i => xs[i]?) (fun i => ys[i]?)) := by
  subst hn
  constructor
  · intro i H hi hq
    have l1 : i < xs.length := by omega
    have l2 : i < ys.length := by omega
    exact ⟨xs, ys, xs[i], ys[i], hq.1, hq.2, by simp [l1], by simp [l2]⟩
  · intro H hq
    exact ⟨xs, ys, hq.1, hq.2, by omega⟩
  · intro i H v H' hi hq y
    obtain ⟨T, x, z, p1, p2, p3, p4, p5⟩ := y
    exact ⟨T, x, z, p1, p2, p3, p4 xs hq.1, p5 ys hq.2⟩
theorem walkD_zipT {F : Hp} {a b : Addr} {xs ys : List V} {ds es : List D} (h1 : SqT K F a xs) (h2 : SqT K F b ys) (r1 : RA K F ds xs) (r2 : RA K F es ys) : WalkD K F (RZ.ItzT K a b) (zipD ds es) := by
  refine ⟨fun H => SqT K H a xs ∧ SqT K H b ys, YPair (fun i => xs[i]?) (fun i => ys[i]?), ?_, fun H g => ⟨grow_t g h1, grow_t g h2⟩, fun i H x H' d e y => .inr ?_⟩
  · refine walk_zipT' ?_
    unfold zipD
    rw [List.length_map, List.length_zip, r1.length, r2.length]
  · obtain ⟨T, x1, x2, f1, f2, f3, f4, f5⟩ := y
    obtain ⟨a', b', g1, g2, g3⟩ := zipD_get e
    obtain ⟨v, k1, k2⟩ := r1.get' g1
    obtain ⟨w, k3, k4⟩ := r2.get' g2
    have e1 : x1 = v := by have := f4.symm.trans k1; injection this
    have e2 : x2 = w := by have := f5.symm.trans k3; injection this
    subst e1 e2
    exact ⟨T, a', b', x1, x2, g3, f1, f2, f3, k2, k4⟩
theorem si_zip (ha : SimE K c H0 ta da) (hb : SimE K c H0 tb db) : SimI K c H0 (RZ.iZipA K (tCons ta (tCons tb tNil))) (dZip da db) := by
  intro ρ P h O σ H Rr rp q
  refine ha ρ _ h O σ H _ rp fun v x c1 H1 h1 rp1 e1 rx => ?_
  refine hb ρ _ h1 O σ H1 _ rp1 fun u y c2 H2 h2 rp2 e2 ry => ?_
  obtain ⟨⟨z1, z2⟩, h2⟩ := h2
  subst z1 z2
  have rx := rx.up e2
  unfold zip2 at h2
  split at h2
  · obtain ⟨a, xs, rfl, f1, f2⟩ := id rx
    obtain ⟨b, ys, rfl, f3, f4⟩ := id ry
    exact ⟨a, b, xs, ys, rfl, .inl ⟨.inl (.inl (tracked_of f1)), .inl (.inl (tracked_of f3)), q _ _ H2 h2 rp2 (e1.trans e2) (walkD_zip (.inl (.inl f1)) (.inl (.inl f3)) f2 f4)⟩⟩
  · obtain ⟨a, xs, rfl, f1, f2⟩ := id rx
    obtain ⟨b, ys, rfl, f3, f4⟩ := id ry
    exact ⟨a, b, xs, ys, rfl, .inr ⟨grow_t but_grow f1, grow_t but_grow f3, q _ _ H2 h2 rp2 (e1.trans e2) (walkD_zipT f1 f3 f2 f4)⟩⟩
  · exact h2.elim

/-! ### enumerate -/
def enumD (xs : List D) : List D := (List.range xs.length).map fun (i : Nat) => .tup [.int (i : Int), xs.getD i .non]
def enum1 : D → (List D → Prop) → Prop
  | .lst xs, P => P (enumD xs)
  | _, _ => False
def dEnum (a : DE) : DI := fun ρ P => a ρ fun x c1 => c1 = false ∧ enum1 x P
theorem walkD_enum {F : Hp} {a : Addr} {xs : List V} {ds : List D} (h1 : SqL K F a xs) (r1 : RA K F ds xs) : WalkD K F (Ite K a) (enumD ds) := by
  refine ⟨fun H => SqL K H a xs, YPair (fun i => some (.int (i : Nat))) (fun i => xs[i]?), ?_, fun H g => grow_l g h1, fun i H x H' d e y => .inr ?_⟩
  · have e : (enumD ds).length = xs.length := by unfold enumD; rw [List.length_map, List.length_range, r1.length]
    rw [e]
    exact walk_enum
  · obtain ⟨T, x1, x2, f1, f2, f3, f4, f5⟩ := y
    unfold enumD at e
    rw [List.getElem?_map] at e
    obtain ⟨k, e1, rfl⟩ := Option.map_eq_some_iff.mp e
    obtain ⟨hk, e2⟩ := List.getElem?_eq_some_iff.mp e1
    rw [List.getElem_range] at e2
    subst e2
    rw [List.length_range] at hk
    obtain ⟨v, k1, k2⟩ := r1.get' (List.getElem?_eq_getElem hk)
    have z1 : x2 = v := by have := f5.symm.trans k1; injection this
    have z2 : x1 = .int (i : Nat) := by injection f4 with f4; exact f4.symm
    subst z1 z2
    refine ⟨T, _, _, _, _, rfl, f1, f2, f3, rfl, ?_⟩
    rw [List.getD_eq_getElem?_getD, List.getElem?_eq_getElem hk]
    exact k2
theorem si_enum (ha : SimE K c H0 ta da) : SimI K c H0 (iEnum K (tCons ta tNil)) (dEnum da) := by
  intro ρ P h O σ H Rr rp q
  refine ha ρ _ h O σ H _ rp fun v x c1 H1 h1 rp1 e1 rx => ?_
  obtain ⟨z1, h2⟩ := h1
  subst z1
  unfold enum1 at h2
  split at h2
  · obtain ⟨a, xs, rfl, f1, f2⟩ := id rx
    exact ⟨a, xs, rfl, .inl (.inl (tracked_of f1)), q _ _ H1 h2 rp1 e1 (walkD_enum (.inl (.inl f1)) f2)⟩
  · exact h2.elim

/-! ### a, b = x, y -/
def dParVV (i j : Nat) (da db : DE) : DS := fun Dd ρ => da ρ fun x b => db ρ fun y b' => (b = false ∧ b' = false) ∧ Dd.nx ((ρ.set i (some (Ent.val x))).set j (some (Ent.val y)))
theorem sim_parVV {i j : Nat} (ha : SimE K c H0 ta da) (hb : SimE K c H0 tb db) (hij : i ≠ j) : SimS K c H0 (tPar i j (tCons ta (tCons tb tNil))) (dParVV i j da db) := by
  intro Dd ρ h O σ H Dn F rp g R
  refine ha ρ _ h O σ H _ rp fun v x b H1 h1 rp1 e1 rx => ?_
  refine hb ρ _ h1 O σ H1 _ rp1 fun u y b' H2 h2 rp2 e2 ry => ?_
  obtain ⟨⟨z1, z2⟩, h2⟩ := h2
  subst z1 z2
  exact ⟨v, u, rfl, R.nx _ O _ H2 h2 ((rp2.setVal i (rx.up e2)).setVal j ry) (g.ex (e1.trans e2))⟩
def dParOV (i j : Nat) (da : DN) (db : DE) : DS := fun Dd ρ => da ρ fun xs => db ρ fun y b' => b' = false ∧ Dd.nx ((ρ.set i (some (Ent.own xs))).set j (some (Ent.val y)))
theorem sim_parOV {i j : Nat} {dn : DN} (ha : SimN K c H0 ta dn) (hb : SimE K c H0 tb db) (hij : i ≠ j) : SimS K c H0 (tPar i j (tCons ta (tCons tb tNil))) (dParOV i j dn db) := by
  intro Dd ρ h O σ H Dn F rp g R
  refine ha ρ _ h O σ H _ rp fun p xs ds H1 h1 rp1 hno hx ra g1 _ _ => ?_
  refine hb ρ _ h1 (p :: O) σ H1 _ rp1 fun u y b' H2 h2 rp2 e2 ry => ?_
  obtain ⟨z2, h2⟩ := h2
  subst z2
  have hpS : p ∉ c.S := rp1.notS List.mem_cons_self
  have g2 := e2.but (M := c.M ++ p :: O) fun a z => List.mem_append_left _ (c.sub a z)
  exact ⟨.ref p, u, rfl, R.nx _ (p :: O) _ H2 h2 ((rp2.setOwn i List.mem_cons_self (e2 _ _ hx hpS) (RA.grow g2 _ _ ra) fun k es _ => hno k es).setVal j ry) ((g.trans g1).trans g2)⟩
def dParVO (i j : Nat) (da : DE) (db : DN) : DS := fun Dd ρ => da ρ fun x b => db ρ fun ys => b = false ∧ Dd.nx ((ρ.set i (some (Ent.val x))).set j (some (Ent.own ys)))
theorem own_set_val {ρ : DEnv} {σ : St} {p : Addr} {i : Nat} {d : D} {v : V} (hno : ∀ (k : Nat) (es : List D), ρ[k]? = some (some (Ent.own es)) → σ[k]? ≠ some (some (.ref p))) :
    ∀ (k : Nat) (es : List D), (ρ.set i (some (Ent.val d)))[k]? = some (some (Ent.own es)) → (σ.set i (some v))[k]? ≠ some (some (.ref p)) := fun k es e => by
  by_cases hk : i = k
  · subst hk
    have hl : i < ρ.length := by
      have := (List.getElem?_eq_some_iff.mp e).1
      rwa [List.length_set] at this
    rw [List.getElem?_set_self hl] at e
    cases e
  · rw [List.getElem?_set_ne hk] at e ⊢
    exact hno k es e
theorem sim_parVO {i j : Nat} {dn : DN} (ha : SimE K c H0 ta da) (hb : SimN K c H0 tb dn) (hij : i ≠ j) : SimS K c H0 (tPar i j (tCons ta (tCons tb tNil))) (dParVO i j da dn) := by
  intro Dd ρ h O σ H Dn F rp g R
  refine ha ρ _ h O σ H _ rp fun v x b H1 h1 rp1 e1 rx => ?_
  refine hb ρ _ h1 O σ H1 _ rp1 fun p ys ds H2 h2 rp2 hno hx ra g2 _ _ => ?_
  obtain ⟨z2, h2⟩ := h2
  subst z2
  exact ⟨v, .ref p, rfl, R.nx _ (p :: O) _ H2 h2 ((rp2.setVal i (QD.R.grow g2 _ _ rx)).setOwn j List.mem_cons_self hx ra fun k es _ => own_set_val hno k es) ((g.ex e1).trans g2)⟩
def dParOO (i j : Nat) (da db : DN) : DS := fun Dd ρ => da ρ fun xs => db ρ fun ys => Dd.nx ((ρ.set i (some (Ent.own xs))).set j (some (Ent.own ys)))
theorem sim_parOO {i j : Nat} {dn dm : DN} (ha : SimN K c H0 ta dn) (hb : SimN K c H0 tb dm) (hij : i ≠ j) : SimS K c H0 (tPar i j (tCons ta (tCons tb tNil))) (dParOO i j dn dm) := by
  intro Dd ρ h O σ H Dn F rp g R
  refine ha ρ _ h O σ H _ rp fun p xs ds H1 h1 rp1 hno hx ra g1 _ _ => ?_
  refine hb ρ _ h1 (p :: O) σ H1 _ rp1 fun p2 ys es H2 h2 rp2 hno2 hx2 ra2 g2 e2 hp2 => ?_
  have hpS : p ∉ c.S := rp1.notS List.mem_cons_self
  have hx' := e2 _ _ hx hpS
  have hne : p2 ≠ p := fun e => hp2 (e ▸ List.mem_cons_self)
  have r1 := rp2.setOwn i (List.mem_cons_of_mem _ List.mem_cons_self) hx' (RA.grow g2 _ _ ra) fun k es _ => hno k es
  refine ⟨.ref p, .ref p2, rfl, R.nx _ (p2 :: p :: O) _ H2 h2 (r1.setOwn j List.mem_cons_self hx2 ra2 fun k es hk e z => ?_) ((g.trans g1).trans g2)⟩
  by_cases hki : i = k
  · subst hki
    have hl : i < ρ.length := by
      have := (List.getElem?_eq_some_iff.mp e).1
      rwa [List.length_set] at this
    rw [List.getElem?_set_self (by rw [rp.len]; exact hl)] at z
    injection z with z
    injection z with z
    injection z with z
    exact hne z.symm
  · rw [List.getElem?_set_ne hki] at e z
    exact hno2 k es e z
end

/-! ### keywords -/
section
variable {K : PySem.W.Frag} {c : Fm} {H0 : Hp}
theorem pe_callN0 {X : Cx} {CX : CXT} {k : Nat} {f : Addr} {fd : FuncData} {ps ks : List Str} {sp : Sp} {E : XK} {x : Str} {p pos : Pos} {kws : List Keyword} {tk : TA} {g : List Value → List Value → List Value} {gV : List V → List V → List V}
    (F : FnOk X.prog X.w X.K X.mg X.base CX k f fd ps sp) (hr : Room k X.A) (hg : Gl X x) (hm : X.mg x = some (.ref f)) (hk : PySem.W.keepIn X.K (.ref f) = true) (hb : KBn X.K fd ps 0 ks g gV) (hx : Passes CX X E) (hkw : PK X kws tk)
    (hall : (backToKw pos (keywordEach kws X.env)).all (·.1.isSome) = true := by rfl) (hks : (backToKw pos (keywordEach kws X.env)).filterMap (·.1) = ks := by rfl) (hdb : (x == ("__debug__" : Str)) = false := by decide)
    (hpl : ((backTo pos (starEach [] X.env)).any (·.1) || (backToKw pos (keywordEach kws X.env)).any (·.1.isNone)) = false := by rfl) : PE X (.Call (.Name x p) [] kws pos) (tCallN 0 ks.length sp gV E tNil tk) := by
  constructor
  intro pins s0 σ G Q I hw
  refine wpAny_Call_Name_kw (ld_glob I hg hm ?_ hdb)
  refine PySem.W.callWith_KW0 (h₀ := X.base) I.ok.mod.kin hk hall (thn (hkw.run pos pins s0 σ G _ I hw) fun ws s2 ev => ?_) hpl
  obtain ⟨zs, G2, J2, rz, l1, l2, q2⟩ := ev
  refine ⟨J2.kIn, ?_⟩
  rw [hks]
  exact run_fnN (us := []) (vs := []) F hr hb hx J2 .nil rz l1 l2 q2
/-- how keywords bind, of a def without defaults -/
theorem kb_of {x qual : Str} {st : Stmt} {f : Addr} {fd : FuncData} {ps : List Str} (F : Fun K x qual st f fd) (n : Nat) (ks : List Str) (g : {α : Type} → List α → List α → List α)
    (hrel : ∀ {vs zs : List V} {us ws : List Value}, Vals vs us → Vals zs ws → Vals (g vs zs) (g us ws))
    (h : ∀ (kV doc pm : Value) (an : Option Addr) (cdv ct : Value) (us ws : List Value), us.length = n → ws.length = ks.length → bindArgs (PySem.W.fnOf x qual (defArgs st) (defBody st) (defScope st) .none kV doc pm an cdv ct) ⟨us, ks.zip ws⟩ = pure (ps.zip (g us ws))) :
    KBn K fd ps n ks (fun us ws => g us ws) (fun vs zs => g vs zs) := by
  obtain ⟨oc, od, kV, doc, pm, an, cdv, ct, osl, rfl, lk, hcd⟩ := F.ex
  exact ⟨fun s us ws X l1 l2 => .of_eq (h kV doc pm an cdv ct us ws l1 l2), hrel⟩
def dCallN (bag : Option (Addr × Addr)) (n k m : Nat) (dT : DF) (gD : List D → List D → List D) (da dk : DA) : DE := fun ρ P => da ρ fun xs b => dk ρ fun ys b' => (xs.length = k ∧ ys.length = m) ∧ (gD xs ys).length = n ∧ dT bag (gD xs ys) (fun z => P z (dirt z (b || b'))) fun _ _ => False
theorem sim_callN {n k m : Nat} {dT : DF} {gV : List V → List V → List V} {gD : List D → List D → List D} {E : XK} {t tk : TA} {da dk : DA} (hg : ∀ {H : Hp} {xs ys : List D} {vs zs : List V}, RA K H xs vs → RA K H ys zs → RA K H (gD xs ys) (gV vs zs))
    (ha : SimA K c H0 t da) (hk : SimA K c H0 tk dk) : SimE K c H0 (tCallN k m (spD K n dT) gV E t tk) (dCallN c.bag n k m dT gD da dk) := by
  intro ρ P h O σ H Q rp q
  refine ha ρ _ h O σ H _ rp fun vs xs b H1 h1 rp1 e1 rx => ?_
  refine hk ρ _ h1 O σ H1 _ rp1 fun zs ys b' H2 h2 rp2 e2 ry => ?_
  obtain ⟨⟨l1, l2⟩, l3, h3⟩ := h2
  refine ⟨by rw [rx.len]; exact l1, by rw [ry.len]; exact l2, ?_⟩
  have rxy : RA K (but H2 (if (b || b') = true then c.M else c.M ++ O)) (gD xs ys) (gV vs zs) := hg (rx.up e2).or ry.or'
  generalize hb : (b || b') = bb at rxy h3
  cases bb with
  | true => exact ⟨c, gD xs ys, _, _, l3, rp2.inv, rxy, h3, fun v d H' hp i ex r => q v d _ H' hp (rp2.up ex i) ((e1.trans e2).trans ex) (RB.dirt (b := true) r), fun C d gs fs H' hf => hf.elim⟩
  | false => exact ⟨rp2.fm, gD xs ys, _, _, l3, ⟨rp2.inv, rp2.liv⟩, rxy, h3, fun v d H' hp i ex r => q v d _ H' hp (rp2.up ex i.1) ((e1.trans e2).trans ex) (RB.dirt (b := false) r), fun C d gs fs H' hf => hf.elim⟩
/-- keywords alone, in the parameters' order -/
theorem kb_all {x qual : Str} {st : Stmt} {f : Addr} {fd : FuncData} {ps ks : List Str} (F : Fun K x qual st f fd)
    (h : ∀ (kV doc pm : Value) (an : Option Addr) (cdv ct : Value) (ws : List Value), ws.length = ks.length → bindArgs (PySem.W.fnOf x qual (defArgs st) (defBody st) (defScope st) .none kV doc pm an cdv ct) ⟨[], ks.zip ws⟩ = pure (ps.zip ws)) :
    KBn K fd ps 0 ks (fun _ ws => ws) (fun _ zs => zs) := by
  obtain ⟨oc, od, kV, doc, pm, an, cdv, ct, osl, rfl, lk, hcd⟩ := F.ex
  exact ⟨fun s us ws X l1 l2 => by
    rw [List.length_eq_zero_iff.mp l1]
    exact .of_eq (h kV doc pm an cdv ct ws l2), fun _ r => r⟩
theorem sim_callK {n m : Nat} {dT : DF} {E : XK} {tk : TA} {dk : DA} (hk : SimA K c H0 tk dk) : SimE K c H0 (tCallN 0 m (spD K n dT) (fun _ zs => zs) E tNil tk) (dCallN c.bag n 0 m dT (fun _ ys => ys) dNil dk) :=
  sim_callN (fun _ r => r) sim_nil hk
end
end QD

/-! QD9: what simp is given. -/
namespace QD
open PySem L2

theorem ty_NoneType_str : isTy "NoneType" "str" = some false := by decide +kernel
theorem ty_NoneType_int : isTy "NoneType" "int" = some false := by decide +kernel
theorem ty_NoneType_bool : isTy "NoneType" "bool" = some false := by decide +kernel
theorem ty_NoneType_list : isTy "NoneType" "list" = some false := by decide +kernel
theorem ty_NoneType_tuple : isTy "NoneType" "tuple" = some false := by decide +kernel
theorem ty_bool_str : isTy "bool" "str" = some false := by decide +kernel
theorem ty_bool_int : isTy "bool" "int" = some true := by decide +kernel
theorem ty_bool_bool : isTy "bool" "bool" = some true := by decide +kernel
theorem ty_bool_list : isTy "bool" "list" = some false := by decide +kernel
theorem ty_bool_tuple : isTy "bool" "tuple" = some false := by decide +kernel
theorem ty_int_str : isTy "int" "str" = some false := by decide +kernel
theorem ty_int_int : isTy "int" "int" = some true := by decide +kernel
theorem ty_int_bool : isTy "int" "bool" = some false := by decide +kernel
theorem ty_int_list : isTy "int" "list" = some false := by decide +kernel
theorem ty_int_tuple : isTy "int" "tuple" = some false := by decide +kernel
theorem ty_str_str : isTy "str" "str" = some true := by decide +kernel
theorem ty_str_int : isTy "str" "int" = some false := by decide +kernel
theorem ty_str_bool : isTy "str" "bool" = some false := by decide +kernel
theorem ty_str_list : isTy "str" "list" = some false := by decide +kernel
theorem ty_str_tuple : isTy "str" "tuple" = some false := by decide +kernel
theorem ty_list_str : isTy "list" "str" = some false := by decide +kernel
theorem ty_list_int : isTy "list" "int" = some false := by decide +kernel
theorem ty_list_bool : isTy "list" "bool" = some false := by decide +kernel
theorem ty_list_list : isTy "list" "list" = some true := by decide +kernel
theorem ty_list_tuple : isTy "list" "tuple" = some false := by decide +kernel
theorem ty_tuple_str : isTy "tuple" "str" = some false := by decide +kernel
theorem ty_tuple_int : isTy "tuple" "int" = some false := by decide +kernel
theorem ty_tuple_bool : isTy "tuple" "bool" = some false := by decide +kernel
theorem ty_tuple_list : isTy "tuple" "list" = some false := by decide +kernel
theorem ty_tuple_tuple : isTy "tuple" "tuple" = some true := by decide +kernel
end QD

/-! QD10: the law's bag by hand; comprehensions that map; small mathematics. -/
namespace QD
open PySem L2

/-! ### ints out of a bag -/
def EvI (te : TE) (σ : L2.St) (H : Hp) (i : Int) : Prop := ∀ Q : VK, Q (.int i) H → te σ H Q
section
variable {K : PySem.W.Frag} {σ : L2.St} {H : Hp} {ta tb te : TE} {i j k : Int} {b a : Addr} {xs : List V} {n : Nat}
theorem ei_c : EvI (tC (.int i)) σ H i := fun _ q => q
theorem ei_var {s : Nat} (h : σ[s]? = some (some (.int i))) : EvI (tVar s) σ H i := fun _ q => ⟨_, h, q⟩
theorem ei_add (h1 : EvI ta σ H i) (h2 : EvI tb σ H j) : EvI (tOp gAdd ta tb) σ H (i + j) := fun _ q => h1 _ (h2 _ (.inl ⟨i, j, rfl, rfl, q⟩))
theorem ei_mul (h1 : EvI ta σ H i) (h2 : EvI tb σ H j) (hc : CMul i j) : EvI (tOp gMul ta tb) σ H (i * j) := fun _ q => h1 _ (h2 _ (.inl ⟨i, j, rfl, rfl, hc, q⟩))
theorem ei_mod (h1 : EvI ta σ H i) (h2 : EvI tb σ H j) (hc : 0 < j) : EvI (tOp gMod ta tb) σ H (i % j) := fun _ q => h1 _ (h2 _ ⟨i, j, rfl, rfl, hc, q⟩)
theorem ei_fdiv (h1 : EvI ta σ H i) (h2 : EvI tb σ H j) (hc : CDiv i j) : EvI (tOp gFdiv ta tb) σ H (i / j) := fun _ q => h1 _ (h2 _ ⟨i, j, rfl, rfl, hc, q⟩)
theorem ei_int (h1 : EvI ta σ H i) : EvI (tCB rInt1 (tCons ta tNil)) σ H i := fun _ q => h1 _ (.inl ⟨i, rfl, q⟩)
theorem ei_abs (h1 : EvI ta σ H i) : EvI (tCB rAbs (tCons ta tNil)) σ H (if i < 0 then -i else i) := fun _ q => h1 _ ⟨i, rfl, q⟩
theorem ei_ix (hs : σ[n]? = some (some (.ref b))) (hb : H b = some (.lst xs)) (hk : atI xs k = some (.int i)) : EvI (tOp (gIx K) (tVar n) (tC (.int k))) σ H i := fun _ q =>
  ⟨_, hs, .inl ⟨b, xs, k, _, rfl, rfl, .inl (.inl hb), hk, q⟩⟩
/-- bag[0][..] -/
theorem ei_ix2 {ys : List V} (hs : σ[n]? = some (some (.ref b))) (hb : H b = some (.lst xs)) (hk : atI xs k = some (.ref a)) (ha : H a = some (.lst ys)) (ht : EvI ta σ H j) (hj : atI ys j = some (.int i)) :
    EvI (tOp (gIx K) (tOp (gIx K) (tVar n) (tC (.int k))) ta) σ H i := fun _ q =>
  ⟨_, hs, .inl ⟨b, xs, k, _, rfl, rfl, .inl (.inl hb), hk, ht _ (.inl ⟨a, ys, j, _, rfl, rfl, .inl (.inl ha), hj, q⟩)⟩⟩
theorem ei_len {ys : List V} (hs : σ[n]? = some (some (.ref b))) (hb : H b = some (.lst xs)) (hk : atI xs k = some (.ref a)) (ha : H a = some (.lst ys)) :
    EvI (tCB (rLen K) (tCons (tOp (gIx K) (tVar n) (tC (.int k))) tNil)) σ H (ys.length : Int) := fun _ q =>
  ⟨_, hs, .inl ⟨b, xs, k, _, rfl, rfl, .inl (.inl hb), hk, _, ys.length, rfl, .inl ⟨ys, .inl (.inl ha), rfl⟩, q⟩⟩
/-- bag[k] = e -/
theorem ts_set {D : Ends} {m : Nat} (he : EvI te σ H i) (hs : σ[n]? = some (some (.ref b))) (hb : H b = some (.lst xs)) (hk : ixN xs.length k = some m) (q : D.nx σ (upd H b (.lst (xs.set m (.int i))))) :
    tAsg te (gSub (tVar n) (tC (.int k)) rSetL) D σ H := he _ ⟨_, hs, b, xs, k, m, rfl, rfl, hb, hk, q⟩
theorem ts_setName {D : Ends} {s : Nat} (he : EvI te σ H i) (q : D.nx (σ.set s (some (.int i))) H) : tAsg te (gName s) D σ H := he _ q
theorem ts_ret {D : Ends} (he : EvI te σ H i) (q : D.rt (.int i) H) : tRet te D σ H := he _ q
/-- a test of two ints -/
def EvB (tt : TT) (σ : L2.St) (H : Hp) (b : Bool) : Prop := ∀ Q : Bool → Hp → Prop, Q b H → tt σ H Q
theorem eb_eq {x y : Int} (h1 : EvI ta σ H x) (h2 : EvI tb σ H y) : EvB (tTest (tOp (gEq K) ta tb)) σ H (decide (x = y)) := fun Q q => h1 _ (h2 _ ⟨.int x, .int y, .int x, .int y, rfl, rfl, by
  refine ⟨_, rfl, ?_⟩
  have e : PyData.eqv (.int x) (.int y) = decide (x = y) := by
    simp only [PyData.eqv]
    exact Bool.eq_iff_iff.mpr (by simp)
  rw [e]
  exact q⟩)
theorem eb_II {f : Int → Int → Bool} (h1 : EvI ta σ H i) (h2 : EvI tb σ H j) : EvB (tTest (tOp (rI0 fun i j => .bl (f i j)) ta tb)) σ H (f i j) := fun Q q => h1 _ (h2 _ ⟨i, j, rfl, rfl, _, rfl, q⟩)
theorem eb_and {t u : TT} {p r : Bool} (h1 : EvB t σ H p) (h2 : p = true → EvB u σ H r) (h3 : p = false → r = false) : EvB (tAnd t u) σ H r := fun Q q => h1 _ (by
  cases p with
  | true => exact iteT (h2 rfl Q q)
  | false =>
    refine iteF ?_
    rw [h3 rfl] at q
    exact q)
end

theorem ts_cut {t u : TS} {D : Ends} {σ : L2.St} {H : Hp} (G : L2.St → Hp → Prop) (a : ∀ D' : Ends, D'.rt = D.rt → (∀ σ' H', G σ' H' → D'.nx σ' H') → t D' σ H) (b : ∀ σ' H', G σ' H' → u D σ' H') : tSeq t u D σ H := a _ rfl b
theorem ts_if {c : TT} {t u : TS} {D : Ends} {σ : L2.St} {H : Hp} {k : Bool} (hc : EvB c σ H k) (h1 : k = true → t D σ H) (h2 : k = false → u D σ H) : tIfS c t u D σ H := hc _ (by
  cases k with
  | true => exact iteT (h1 rfl)
  | false => exact iteF (h2 rfl))
/-- the bag's list -/
def bagL (a : Addr) (i1 i2 i3 i4 : Int) : List V := [.ref a, .int i1, .int i2, .int i3, .int i4]
/-- the bag within a draw: what stood ahead of it but the bag stands -/
structure BagSt (H : Hp) (b : Addr × Addr) (ns : List Int) (H' : Hp) (i1 i2 i3 i4 : Int) : Prop where
  at_ : H' b.1 = some (.lst (bagL b.2 i1 i2 i3 i4))
  ls : H' b.2 = some (.lst (ns.map V.int))
  ne : b.2 ≠ b.1
  keep : ∀ a o, H a = some o → a ≠ b.1 → H' a = some o
  len : ns.length ≤ 63
  p0 : 0 ≤ i1
  p1 : i1 ≤ (ns.length : Int)
  p2 : 0 ≤ i2
  p3 : 0 ≤ i3
  p4 : i3 < 4294967296
  p5 : 0 ≤ i4
theorem BagSt.set {H : Hp} {b : Addr × Addr} {ns : List Int} {H' : Hp} {i1 i2 i3 i4 j1 j2 j3 j4 : Int} (s : BagSt H b ns H' i1 i2 i3 i4) {xs : List V} (e : xs = bagL b.2 j1 j2 j3 j4) (p0 : 0 ≤ j1) (p1 : j1 ≤ (ns.length : Int)) (p2 : 0 ≤ j2) (p3 : 0 ≤ j3) (p4 : j3 < 4294967296) (p5 : 0 ≤ j4) :
    BagSt H b ns (upd H' b.1 (.lst xs)) j1 j2 j3 j4 := by
  subst e
  exact ⟨upd_same, by rw [upd_ne s.ne]; exact s.ls, s.ne, fun a o h n => by rw [upd_ne n]; exact s.keep a o h n, s.len, p0, p1, p2, p3, p4, p5⟩
theorem BagSt.fin {c : Fm} {H : Hp} {b : Addr × Addr} {ns : List Int} {H' : Hp} {i1 i2 i3 i4 : Int} (s : BagSt H b ns H' i1 i2 i3 i4) (hb : c.bag = some b) (iv : c.I H) (hM : b.2 ∉ c.M) : c.I H' ∧ Ex c.S H H' :=
  ⟨c.bP b hb H H' iv s.keep ⟨ns, i1, i2, i3, i4, s.at_, but_of hM s.ls, s.len, s.p0, s.p1, s.p2, s.p3, s.p4, s.p5⟩, fun a o h n => s.keep a o h fun e => n (e ▸ c.bS b hb)⟩
theorem ts_bag {D : Ends} {te : TE} {σ : L2.St} {H H' : Hp} {b : Addr × Addr} {ns : List Int} {i1 i2 i3 i4 j1 j2 j3 j4 i k : Int} {n m : Nat} (S : BagSt H b ns H' i1 i2 i3 i4) (he : EvI te σ H' i) (hs : σ[n]? = some (some (.ref b.1))) (hk : ixN 5 k = some m)
    (e : (bagL b.2 i1 i2 i3 i4).set m (.int i) = bagL b.2 j1 j2 j3 j4) (p0 : 0 ≤ j1) (p1 : j1 ≤ (ns.length : Int)) (p2 : 0 ≤ j2) (p3 : 0 ≤ j3) (p4 : j3 < 4294967296) (p5 : 0 ≤ j4) (q : ∀ H'', BagSt H b ns H'' j1 j2 j3 j4 → D.nx σ H'') :
    tAsg te (gSub (tVar n) (tC (.int k)) rSetL) D σ H' := ts_set he hs S.at_ hk (q _ (S.set e p0 p1 p2 p3 p4 p5))
theorem eb_ge {ta tb : TE} {σ : L2.St} {H : Hp} {i j : Int} (h1 : EvI ta σ H i) (h2 : EvI tb σ H j) : EvB (tTest (tOp gGe ta tb)) σ H (decide (i ≥ j)) := eb_II (f := fun i j => decide (i ≥ j)) h1 h2
theorem eb_gt {ta tb : TE} {σ : L2.St} {H : Hp} {i j : Int} (h1 : EvI ta σ H i) (h2 : EvI tb σ H j) : EvB (tTest (tOp gGt ta tb)) σ H (decide (i > j)) := eb_II (f := fun i j => decide (i > j)) h1 h2
theorem eb_lt {ta tb : TE} {σ : L2.St} {H : Hp} {i j : Int} (h1 : EvI ta σ H i) (h2 : EvI tb σ H j) : EvB (tTest (tOp gLt ta tb)) σ H (decide (i < j)) := eb_II (f := fun i j => decide (i < j)) h1 h2
theorem ei_pow {ta tb : TE} {σ : L2.St} {H : Hp} {i j : Int} (h1 : EvI ta σ H i) (h2 : EvI tb σ H j) (hc : CPow i j) : EvI (tOp rPow ta tb) σ H (i ^ j.toNat) := fun _ q => h1 _ (h2 _ ⟨i, j, rfl, rfl, hc, q⟩)
theorem cmulr {i j : Int} (h : -(2 ^ 64) < j ∧ j < 2 ^ 64) : CMul i j := .inr h

/-- what a draw promises: some number below many -/
def dtPull : DF := fun bag ds P _ => ∃ b n, bag = some b ∧ ds = [.raw (.ref b.1), .int n] ∧ 0 < n ∧ n < 1073741824 ∧ ∀ k, 0 ≤ k → k < n → P (.int k)
theorem dtPull_congr {bag : Option (Addr × Addr)} {ds ds' : List D} {P : D → Prop} {Er : DEr} (h : ds = ds') : dtPull bag ds P Er = dtPull bag ds' P Er := by rw [h]
/-- what the bag's making promises -/
def spBag (K : PySem.W.Frag) : Sp := fun vs H Q _ => ∃ (a : Addr) (ns : List Int), vs = [.ref a] ∧ SqL K H a (ns.map V.int) ∧ ns.length ≤ 63 ∧ ∀ (b : Addr × Addr) H', b.1 ≠ b.2 → BagAt [b.1] H' b → Q (.ref b.1) H'
def spLaw (K : PySem.W.Frag) : Sp := fun vs H Q _ => ∃ (a : Addr) (ns : List Int), vs = [.ref a] ∧ SqL K H a (ns.map V.int) ∧ ns.length ≤ 63 ∧ ∀ H', Q (.bl true) H'

/-! ### comprehensions that map -/
theorem lcGo_name {i : Nat} {de : DE} {vs : List Nat} {ρ : DEnv} (f : D → D) {P : List D → Prop} : ∀ (xs acc : List D),
    (∀ x, x ∈ xs → ∀ Q : D → Bool → Prop, Q (f x) false → de ((dwipe ρ vs).set i (some (Ent.val x))) Q) → acc.length + xs.length ≤ sizeLine → P (acc ++ xs.map f) → lcGo (dGName i) (fun _ P => P true) de vs ρ acc xs P
  | [], acc, _, _, h => by
    simp only [lcGo]
    simpa using h
  | x :: xs, acc, hx, hl, h => by
    simp only [lcGo, dGName, if_true]
    refine hx x List.mem_cons_self _ ⟨rfl, ?_, ?_⟩
    · rw [List.length_cons] at hl; omega
    · refine lcGo_name f xs (acc ++ [f x]) (fun y hy => hx y (List.mem_cons_of_mem _ hy)) ?_ ?_
      · rw [List.length_append, List.length_singleton]; rw [List.length_cons] at hl; omega
      · rw [List.append_assoc]; exact h
theorem lcGo_filter {i : Nat} {dt : DT} {de : DE} {vs : List Nat} {ρ : DEnv} (p : D → Bool) (f : D → D) {P : List D → Prop} : ∀ (xs acc : List D),
    (∀ x, x ∈ xs → ∀ Q : Bool → Prop, Q (p x) → dt ((dwipe ρ vs).set i (some (Ent.val x))) Q) → (∀ x, x ∈ xs → p x = true → ∀ Q : D → Bool → Prop, Q (f x) false → de ((dwipe ρ vs).set i (some (Ent.val x))) Q) →
    acc.length + xs.length ≤ sizeLine → P (acc ++ (xs.filter p).map f) → lcGo (dGName i) dt de vs ρ acc xs P
  | [], acc, _, _, _, h => by
    simp only [lcGo]
    simpa using h
  | x :: xs, acc, ht, hx, hl, h => by
    simp only [lcGo, dGName]
    rw [List.length_cons] at hl
    refine ht x List.mem_cons_self _ ?_
    cases hp : p x with
    | true =>
      rw [if_pos rfl]
      refine hx x List.mem_cons_self hp _ ⟨rfl, by omega, ?_⟩
      refine lcGo_filter p f xs (acc ++ [f x]) (fun y hy => ht y (List.mem_cons_of_mem _ hy)) (fun y hy => hx y (List.mem_cons_of_mem _ hy)) ?_ ?_
      · rw [List.length_append, List.length_singleton]; omega
      · rw [List.append_assoc]
        rw [List.filter_cons_of_pos hp] at h
        exact h
    | false =>
      rw [if_neg Bool.false_ne_true]
      refine lcGo_filter p f xs acc (fun y hy => ht y (List.mem_cons_of_mem _ hy)) (fun y hy => hx y (List.mem_cons_of_mem _ hy)) (by omega) ?_
      rw [List.filter_cons_of_neg (by rw [hp]; exact Bool.false_ne_true)] at h
      exact h
/-- each element is some one of S -/
theorem lcGo_some {i : Nat} {de : DE} {vs : List Nat} {ρ : DEnv} (S : D → Prop) {P : List D → Prop} : ∀ (xs acc : List D),
    (∀ x, x ∈ xs → ∀ Q : D → Bool → Prop, (∀ d, S d → Q d false) → de ((dwipe ρ vs).set i (some (Ent.val x))) Q) → acc.length + xs.length ≤ sizeLine →
    (∀ ds : List D, ds.length = xs.length → (∀ d, d ∈ ds → S d) → P (acc ++ ds)) → lcGo (dGName i) (fun _ P => P true) de vs ρ acc xs P
  | [], acc, _, _, h => by
    simp only [lcGo]
    simpa using h [] rfl (fun d hd => by simp at hd)
  | x :: xs, acc, hx, hl, h => by
    simp only [lcGo, dGName, if_true]
    rw [List.length_cons] at hl
    refine hx x List.mem_cons_self _ fun d hd => ⟨rfl, by omega, ?_⟩
    refine lcGo_some S xs (acc ++ [d]) (fun y hy => hx y (List.mem_cons_of_mem _ hy)) ?_ fun ds hl2 hds => ?_
    · rw [List.length_append, List.length_singleton]; omega
    · rw [List.append_assoc]
      exact h (d :: ds) (by rw [List.length_cons, List.length_cons, hl2]) fun e he => by
        rcases List.mem_cons.mp he with rfl | he
        · exact hd
        · exact hds e he
theorem lcGo_pair {i j : Nat} {de : DE} {vs : List Nat} {ρ : DEnv} (f : D → D → D) {P : List D → Prop} : ∀ (xs ys acc : List D),
    (∀ x y, (x, y) ∈ xs.zip ys → ∀ Q : D → Bool → Prop, Q (f x y) false → de (((dwipe ρ vs).set i (some (Ent.val x))).set j (some (Ent.val y))) Q) → acc.length + xs.length ≤ sizeLine → P (acc ++ List.zipWith f xs ys) →
    lcGo (dGPair i j) (fun _ P => P true) de vs ρ acc (zipD xs ys) P
  | [], ys, acc, _, _, h => by
    simp only [zipD, List.zip_nil_left, List.map_nil, lcGo]
    simpa using h
  | x :: xs, [], acc, _, _, h => by
    simp only [zipD, List.zip_nil_right, List.map_nil, lcGo]
    simpa using h
  | x :: xs, y :: ys, acc, hx, hl, h => by
    rw [List.length_cons] at hl
    have e : zipD (x :: xs) (y :: ys) = .tup [x, y] :: zipD xs ys := rfl
    rw [e]
    simp only [lcGo, dGPair, if_true]
    refine hx x y (by rw [List.zip_cons_cons]; exact List.mem_cons_self) _ ⟨rfl, by omega, ?_⟩
    refine lcGo_pair f xs ys (acc ++ [f x y]) (fun a b hab => hx a b (by rw [List.zip_cons_cons]; exact List.mem_cons_of_mem _ hab)) ?_ ?_
    · rw [List.length_append, List.length_singleton]; omega
    · rw [List.append_assoc]; exact h
end QD

/-! QD11: plain data; loops by what holds of the slots; texts. -/
namespace QD
open PySem L2 PySem.PyData

/-! ### plain data -/
mutual
def pl : D → Bool
  | .non => true
  | .bl _ => true
  | .int _ => true
  | .str x => strOk x && decide (x.length ≤ 1000000)
  | .lst ds => decide (ds.length ≤ 1000000) && pls ds
  | .tup ds => decide (ds.length ≤ 1000000) && pls ds
  | .ins _ _ => false
  | .raw _ => false
def pls : List D → Bool
  | [] => true
  | d :: ds => pl d && pls ds
end
mutual
def dep : D → Nat
  | .lst ds => deps ds + 1
  | .tup ds => deps ds + 1
  | _ => 0
def deps : List D → Nat
  | [] => 0
  | d :: ds => max (dep d) (deps ds)
end
theorem pls_mem : ∀ {ds : List D}, pls ds = true → ∀ d, d ∈ ds → pl d = true
  | [], _, d, h => by simp at h
  | c :: ds, e, d, h => by
    simp only [pls, Bool.and_eq_true] at e
    rcases List.mem_cons.mp h with rfl | h
    · exact e.1
    · exact pls_mem e.2 d h
theorem pls_of : ∀ {ds : List D}, (∀ d, d ∈ ds → pl d = true) → pls ds = true
  | [], _ => rfl
  | c :: ds, h => by
    simp only [pls, Bool.and_eq_true]
    exact ⟨h c List.mem_cons_self, pls_of fun d hd => h d (List.mem_cons_of_mem _ hd)⟩
theorem deps_mem : ∀ {ds : List D} {d : D}, d ∈ ds → dep d ≤ deps ds
  | c :: ds, d, h => by
    simp only [deps]
    rcases List.mem_cons.mp h with rfl | h
    · omega
    · have := deps_mem h
      omega
theorem deps_le : ∀ {ds : List D} {n : Nat}, (∀ d, d ∈ ds → dep d ≤ n) → deps ds ≤ n
  | [], n, _ => Nat.zero_le _
  | c :: ds, n, h => by
    have h1 := h c List.mem_cons_self
    have h2 := deps_le (n := n) fun d hd => h d (List.mem_cons_of_mem _ hd)
    simp only [deps]
    omega
mutual
theorem pl_py : ∀ (d : D), pl d = true → ∃ p, toPy d = some p ∧ p.canLay0 = true ∧ p.depth = dep d
  | .non, _ => ⟨_, rfl, rfl, by simp [PyData.depth, dep]⟩
  | .bl _, _ => ⟨_, rfl, rfl, by simp [PyData.depth, dep]⟩
  | .int _, _ => ⟨_, rfl, rfl, by simp [PyData.depth, dep]⟩
  | .str x, h => by
    simp only [pl, Bool.and_eq_true] at h
    exact ⟨_, rfl, by simp only [PyData.canLay0]; exact h.1, by simp [PyData.depth, dep]⟩
  | .lst ds, h => by
    simp only [pl, Bool.and_eq_true] at h
    obtain ⟨ps, e1, e2, e3⟩ := pls_py ds h.2
    exact ⟨.list ps, by simp [toPy, e1], by simp only [PyData.canLay0]; exact e2, by simp only [PyData.depth, dep, e3]; try omega⟩
  | .tup ds, h => by
    simp only [pl, Bool.and_eq_true] at h
    obtain ⟨ps, e1, e2, e3⟩ := pls_py ds h.2
    exact ⟨.tuple ps, by simp [toPy, e1], by simp only [PyData.canLay0]; exact e2, by simp only [PyData.depth, dep, e3]; try omega⟩
  | .ins _ _, h => by simp [pl] at h
  | .raw _, h => by simp [pl] at h
theorem pls_py : ∀ (ds : List D), pls ds = true → ∃ ps, toPys ds = some ps ∧ PyData.canLayAll0 ps = true ∧ PyData.depthAll ps = deps ds
  | [], _ => ⟨[], rfl, by simp only [PyData.canLayAll0], by simp [PyData.depthAll, deps]⟩
  | d :: ds, h => by
    simp only [pls, Bool.and_eq_true] at h
    obtain ⟨p, e1, e2, e3⟩ := pl_py d h.1
    obtain ⟨ps, f1, f2, f3⟩ := pls_py ds h.2
    exact ⟨p :: ps, by simp only [toPys, e1, f1], by simp only [PyData.canLayAll0, e2, f2, Bool.and_self], by simp only [PyData.depthAll, deps, e3, f3]⟩
end
theorem dEq_self {d : D} {P : D → Prop} (h : pl d = true) (hd : dep d ≤ 64) (q : P (.bl true)) : dEq d d P := by
  obtain ⟨p, e1, e2, e3⟩ := pl_py d h
  have s : SeqAt.shaped p = true := by
    show (p.canLay0 && decide (p.depth ≤ 64)) = true
    rw [e2, e3, decide_eq_true hd]
    rfl
  unfold dEq
  rw [e1]
  refine ⟨⟨s, s⟩, ?_⟩
  rw [SeqAt.eqv_refl p e2]
  exact q
theorem dNe_self {d : D} {P : D → Prop} (h : pl d = true) (hd : dep d ≤ 64) (q : P (.bl false)) : dNe d d P := by
  obtain ⟨p, e1, e2, e3⟩ := pl_py d h
  have s : SeqAt.shaped p = true := by
    show (p.canLay0 && decide (p.depth ≤ 64)) = true
    rw [e2, e3, decide_eq_true hd]
    rfl
  unfold dNe
  rw [e1]
  refine ⟨⟨s, s⟩, ?_⟩
  rw [SeqAt.eqv_refl p e2]
  exact q
theorem dEq_int {i j : Int} {P : D → Prop} (q : P (.bl (decide (i = j)))) : dEq (.int i) (.int j) P := by
  refine ⟨⟨rfl, rfl⟩, ?_⟩
  have e : PyData.eqv (.int i) (.int j) = decide (i = j) := by
    simp only [PyData.eqv]
    exact Bool.eq_iff_iff.mpr (by simp)
  rw [e]
  exact q
theorem dNe_bl {i j : Bool} {P : D → Prop} (q : P (.bl (!decide (i = j)))) : dNe (.bl i) (.bl j) P := by
  refine ⟨⟨rfl, rfl⟩, ?_⟩
  have e : PyData.eqv (.bool i) (.bool j) = decide (i = j) := by
    simp only [PyData.eqv]
    exact Bool.eq_iff_iff.mpr (by simp)
  rw [e]
  exact q
theorem dEq_bl {i j : Bool} {P : D → Prop} (q : P (.bl (decide (i = j)))) : dEq (.bl i) (.bl j) P := by
  refine ⟨⟨rfl, rfl⟩, ?_⟩
  have e : PyData.eqv (.bool i) (.bool j) = decide (i = j) := by
    simp only [PyData.eqv]
    exact Bool.eq_iff_iff.mpr (by simp)
  rw [e]
  exact q
theorem dEq_str {x y : Str} {P : D → Prop} (hx : strOk x = true) (hy : strOk y = true) (q : P (.bl (decide (x = y)))) : dEq (.str x) (.str y) P := by
  refine ⟨⟨?_, ?_⟩, ?_⟩
  · show (PyData.canLay0 (.str x) && decide (PyData.depth (.str x) ≤ 64)) = true
    simp [PyData.canLay0, PyData.depth, hx]
  · show (PyData.canLay0 (.str y) && decide (PyData.depth (.str y) ≤ 64)) = true
    simp [PyData.canLay0, PyData.depth, hy]
  · have e : PyData.eqv (.str x) (.str y) = decide (x = y) := by
      simp only [PyData.eqv]
      exact Bool.eq_iff_iff.mpr (by simp)
    rw [e]
    exact q

theorem shp (p : PyData) (h : p.canLay0 = true) (hd : p.depth = 0) : SeqAt.shaped p = true := by
  show (p.canLay0 && decide (p.depth ≤ 64)) = true
  rw [h, hd]
  rfl
theorem bool_int (i j : Int) : (i == j) = decide (i = j) := Bool.eq_iff_iff.mpr (by simp)
theorem bool_bl (i j : Bool) : (i == j) = decide (i = j) := Bool.eq_iff_iff.mpr (by simp)
theorem eq_bl {i j : Bool} {P : D → Prop} : dEq (.bl i) (.bl j) P = P (.bl (decide (i = j))) := by
  show ((_ ∧ _) ∧ P (.bl (PyData.eqv (.bool i) (.bool j)))) = _
  rw [show PyData.eqv (.bool i) (.bool j) = decide (i = j) by simp only [PyData.eqv]; exact bool_bl i j]
  exact propext ⟨fun h => h.2, fun h => ⟨⟨rfl, rfl⟩, h⟩⟩
theorem ne_bl {i j : Bool} {P : D → Prop} : dNe (.bl i) (.bl j) P = P (.bl (!decide (i = j))) := by
  show ((_ ∧ _) ∧ P (.bl (!PyData.eqv (.bool i) (.bool j)))) = _
  rw [show PyData.eqv (.bool i) (.bool j) = decide (i = j) by simp only [PyData.eqv]; exact bool_bl i j]
  exact propext ⟨fun h => h.2, fun h => ⟨⟨rfl, rfl⟩, h⟩⟩
theorem eq_int {i j : Int} {P : D → Prop} : dEq (.int i) (.int j) P = P (.bl (decide (i = j))) := by
  show ((_ ∧ _) ∧ P (.bl (PyData.eqv (.int i) (.int j)))) = _
  rw [show PyData.eqv (.int i) (.int j) = decide (i = j) by simp only [PyData.eqv]; exact bool_int i j]
  exact propext ⟨fun h => h.2, fun h => ⟨⟨rfl, rfl⟩, h⟩⟩
theorem ne_int {i j : Int} {P : D → Prop} : dNe (.int i) (.int j) P = P (.bl (!decide (i = j))) := by
  show ((_ ∧ _) ∧ P (.bl (!PyData.eqv (.int i) (.int j)))) = _
  rw [show PyData.eqv (.int i) (.int j) = decide (i = j) by simp only [PyData.eqv]; exact bool_int i j]
  exact propext ⟨fun h => h.2, fun h => ⟨⟨rfl, rfl⟩, h⟩⟩

theorem lcGo_congr {dg : DG} {dt : DT} {de : DE} {vs : List Nat} {ρ ρ' : DEnv} {acc acc' xs xs' : List D} {P : List D → Prop} (h : ρ = ρ') (h1 : acc = acc') (h2 : xs = xs') : lcGo dg dt de vs ρ acc xs P = lcGo dg dt de vs ρ' acc' xs' P := by rw [h, h1, h2]
theorem dLoop_congr {dg : DG} {b : DS} {Dd : DEnds} {ρ ρ' : DEnv} {xs xs' : List D} (h : ρ = ρ') (h2 : xs = xs') : dLoop dg b Dd xs ρ = dLoop dg b Dd xs' ρ' := by rw [h, h2]
/-! ### loops -/
theorem dLoop_inv {dg : DG} {body : DS} {Dd : DEnds} (I : Nat → DEnv → Prop) : ∀ (xs : List D) (k : Nat) (ρ : DEnv), I k ρ →
    (∀ i x ρ, xs[i]? = some x → I (k + i) ρ → ∀ N : DEnv → Prop, (∀ ρ', I (k + i + 1) ρ' → N ρ') → dg x ρ fun ρ2 => body { nx := N, rt := Dd.rt, bk := Dd.nx, ct := N } ρ2) →
    (∀ ρ, I (k + xs.length) ρ → Dd.nx ρ) → dLoop dg body Dd xs ρ
  | [], k, ρ, h0, _, hd => hd ρ h0
  | x :: xs, k, ρ, h0, hs, hd => by
    simp only [dLoop]
    refine hs 0 x ρ rfl h0 _ fun ρ' h' => ?_
    refine dLoop_inv I xs (k + 1) ρ' h' (fun i y ρ2 hy h2 N hN => ?_) (fun ρ2 h2 => hd ρ2 (by rw [List.length_cons]; have e : k + (xs.length + 1) = k + 1 + xs.length := by omega
                                                                                              rw [e]; exact h2))
    have e : k + (i + 1) = k + 1 + i := by omega
    exact hs (i + 1) y ρ2 (by simpa using hy) (by rw [e]; exact h2) N (by rw [e]; exact hN)
theorem dFor_inv {dg : DG} {body : DS} {Dd : DEnds} (I : Nat → DEnv → Prop) {xs : List D} {ρ : DEnv} (h0 : I 0 ρ)
    (hs : ∀ i x ρ, xs[i]? = some x → I i ρ → ∀ N : DEnv → Prop, (∀ ρ', I (i + 1) ρ' → N ρ') → dg x ρ fun ρ2 => body { nx := N, rt := Dd.rt, bk := Dd.nx, ct := N } ρ2) (hd : ∀ ρ, I xs.length ρ → Dd.nx ρ) : dLoop dg body Dd xs ρ :=
  dLoop_inv I xs 0 ρ h0 (fun i x ρ hx h N hN => hs i x ρ hx (by simpa using h) N (by simpa using hN)) (fun ρ h => hd ρ (by simpa using h))

/-! ### texts -/
/-- the signs of a text are among cs -/
def among (z cs : Str) : Prop := ∀ k, k ∈ z.cps.toList → k ∈ cs.cps.toList
theorem strOk_among {z cs : Str} (h : among z cs) (hc : strOk cs = true) : strOk z = true := by
  unfold strOk at hc ⊢
  rw [← Array.all_toList] at hc ⊢
  exact List.all_eq_true.mpr fun k hk => List.all_eq_true.mp hc k (h k hk)
theorem strOk_app {a b : Str} (ha : strOk a = true) (hb : strOk b = true) : strOk (a ++ b) = true := by
  unfold strOk at ha hb ⊢
  rw [← Array.all_toList] at ha hb ⊢
  rw [Str.cps_append, Array.toList_append, List.all_append, ha, hb]
  rfl
theorem len_list (z : Str) : z.cps.toList.length = z.length := by rw [Array.length_toList]; rfl
/-- texts of one sign, joined by nothing -/
theorem joinL_signs : ∀ ks : List Nat, TL.joinL [] (ks.map fun k => [k]) = ks
  | [] => rfl
  | [k] => rfl
  | k :: k2 :: r => by
    have h := joinL_signs (k2 :: r)
    simp only [List.map_cons] at h ⊢
    simp only [TL.joinL]
    simp only [List.nil_append, List.singleton_append]
    rw [h]
theorem join_signs (ks : List Nat) : Txt.join (Str.ofString "") (ks.map fun k => (⟨#[k]⟩ : Str)) = ⟨ks.toArray⟩ := by
  have e0 : Str.ofString "" = SX.S [] := by decide +kernel
  have e := SX.join_S [] (ks.map fun k => [k])
  rw [joinL_signs, List.map_map] at e
  rw [e0]
  exact e
end QD

/-! QD12: a reading by data, run from its front (Go). -/
namespace QD
open PySem L2 PySem.PyData
/-- the front of a reading -/
def Go (p : Prop) : Prop := p
theorem go_in {p : Prop} (h : p) : Go p := h
theorem go_out {p : Prop} (h : Go p) : p := h
section
variable {a b e f : DE} {t u : DT} {A B : DS} {Dd : DEnds} {ρ : DEnv} {P : D → Bool → Prop} {PT : Bool → Prop} {PA : List D → Bool → Prop} {Pd : D → Prop} {PI : List D → Prop} {PX : D → DEnv → Prop} {g : DG} {r r' : DR} {du : DU} {dc : DC} {da dk : DA} {di : DI} {dn dm : DN} {dx dy : DX} {i j : Nat} {x y z : D} {xs ys : List D} {k : Bool} {n m : Int} {p q : Prop} {c : Prop} [Decidable c]
theorem go_and : Go (p ∧ q) = (p ∧ Go q) := (rfl)
theorem go_var : Go (dVar i ρ P) = Go (getE ρ[i]? P) := (rfl)
theorem go_val : Go (getE (some (some (Ent.val x))) P) = Go (P x false) := (rfl)
theorem go_own : Go (getE (some (some (Ent.own xs))) P) = Go (P (.lst xs) true) := (rfl)
theorem go_c : Go (dC x ρ P) = Go (P x false) := (rfl)
theorem go_op : Go (dOp r a b ρ P) = Go (a ρ fun x c1 => b ρ fun y c2 => r x y fun z => P z (dirt z (c1 || c2))) := (rfl)
theorem go_un : Go (dUn du a ρ P) = Go (a ρ fun x c1 => du x fun z => P z (dirt z c1)) := (rfl)
theorem go_nil : Go (dNil ρ PA) = Go (PA [] false) := (rfl)
theorem go_cons : Go (dCons a da ρ PA) = Go (a ρ fun x c1 => da ρ fun xs c2 => PA (x :: xs) (c1 || c2)) := (rfl)
theorem go_cb : Go (dCB dc da ρ P) = Go (da ρ fun xs c1 => dc xs fun z => P z (dirt z c1)) := (rfl)
theorem go_tup : Go (dTup da ρ P) = Go (da ρ fun xs c1 => xs.length ≤ sizeLine ∧ P (.tup xs) c1) := (rfl)
theorem go_lst : Go (dLst da ρ P) = Go (da ρ fun xs c1 => xs.length ≤ sizeLine ∧ P (.lst xs) c1) := (rfl)
theorem go_test : Go (dTest a ρ PT) = Go (a ρ fun x _ => asBl x PT) := (rfl)
theorem go_asBl {PB : Bool → Prop} : Go (asBl (.bl k) PB) = Go (PB k) := (rfl)
theorem go_asInt {PB : Int → Prop} : Go (asInt (.int n) PB) = Go (PB n) := (rfl)
theorem go_asStr {s : Str} {PB : Str → Prop} : Go (asStr (.str s) PB) = Go (PB s) := (rfl)
theorem go_some {α : Type} {w : α} {PB : α → Prop} : Go (optP (some w) PB) = Go (PB w) := (rfl)
theorem go_dand : Go (dAnd t u ρ PT) = Go (t ρ fun k => if k = true then u ρ PT else PT false) := (rfl)
theorem go_dor : Go (dOr t u ρ PT) = Go (t ρ fun k => if k = true then PT true else u ρ PT) := (rfl)
theorem go_dnot : Go (dNot t ρ PT) = Go (t ρ fun k => PT (!k)) := (rfl)
theorem go_ifE : Go (dIfE t a b ρ P) = Go (t ρ fun k => if k = true then a ρ P else b ρ P) := (rfl)
theorem go_andV : Go (dAndV a b ρ P) = Go (a ρ fun x _ => asBl x fun k => if k = true then b ρ P else P (.bl false) false) := (rfl)
theorem go_orV : Go (dOrV a b ρ P) = Go (a ρ fun x _ => asBl x fun k => if k = true then P (.bl true) false else b ρ P) := (rfl)
theorem go_notV : Go (dNotV a ρ P) = Go (a ρ fun x _ => asBl x fun k => P (.bl (!k)) false) := (rfl)
theorem go_iT : Go (if True then p else q) = Go p := by rw [if_pos True.intro]
theorem go_iF : Go (if False then p else q) = Go q := by rw [if_neg id]
theorem go_next : Go (dNext Dd ρ) = Go (Dd.nx ρ) := (rfl)
theorem go_seq : Go (dSeq A B Dd ρ) = Go (A { Dd with nx := B Dd } ρ) := (rfl)
theorem go_if : Go (dIf t A B Dd ρ) = Go (t ρ fun k => if k = true then A Dd ρ else B Dd ρ) := (rfl)
theorem go_ret : Go (dRet a Dd ρ) = Go (a ρ fun d _ => Dd.rt d) := (rfl)
theorem go_retN : Go (dRetN Dd ρ) = Go (Dd.rt .non) := (rfl)
theorem go_brk : Go (dBreak Dd ρ) = Go (Dd.bk ρ) := (rfl)
theorem go_cont : Go (dCont Dd ρ) = Go (Dd.ct ρ) := (rfl)
theorem go_drop : Go (dDrop a Dd ρ) = Go (a ρ fun _ _ => Dd.nx ρ) := (rfl)
theorem go_asg : Go (dAsg a g Dd ρ) = Go (a ρ fun d c1 => c1 = false ∧ g d ρ Dd.nx) := (rfl)
theorem go_gname {Q : DEnv → Prop} : Go (dGName i x ρ Q) = Go (Q (ρ.set i (some (Ent.val x)))) := (rfl)
theorem go_gpair {Q : DEnv → Prop} : Go (dGPair i j (.tup [x, y]) ρ Q) = Go (Q ((ρ.set i (some (Ent.val x))).set j (some (Ent.val y)))) := (rfl)
theorem go_II {F : Int → Int → D} : Go (dII F (.int n) (.int m) Pd) = Go (Pd (F n m)) := (rfl)
theorem go_IC {C : Int → Int → Prop} {F : Int → Int → D} : Go (dIC C F (.int n) (.int m) Pd) = Go (C n m ∧ Pd (F n m)) := (rfl)
theorem go_addI : Go (dAdd (.int n) (.int m) Pd) = Go (Pd (.int (n + m))) := (rfl)
theorem go_addS {s s' : Str} : Go (dAdd (.str s) (.str s') Pd) = Go (s.length + s'.length ≤ sizeLine ∧ Pd (.str (s ++ s'))) := (rfl)
theorem go_addL : Go (dAdd (.lst xs) (.lst ys) Pd) = Go (xs.length + ys.length ≤ sizeLine ∧ Pd (.lst (xs ++ ys))) := (rfl)
theorem go_mulI : Go (dMul (.int n) (.int m) Pd) = Go (CMul n m ∧ Pd (.int (n * m))) := (rfl)
theorem go_mulS {s : Str} : Go (dMul (.str s) (.int m) Pd) = Go (MulOk s m ∧ Pd (.str (Txt.mul s m))) := (rfl)
theorem go_mulL : Go (dMul (.lst xs) (.int m) Pd) = Go ((0 ≤ m ∧ m < 2 ^ 63 ∧ xs.length * m.toNat ≤ sizeLine) ∧ Pd (.lst (List.replicate m.toNat xs).flatten)) := (rfl)
theorem go_is : Go (dIs x .non Pd) = Go (optP x.isNon fun b => Pd (.bl b)) := by cases x <;> rfl
theorem go_isnot : Go (dIsNot x .non Pd) = Go (optP x.isNon fun b => Pd (.bl (!b))) := by cases x <;> rfl
theorem go_inS {s : Str} : Go (dInG false x (.str s) Pd) = Go (optP x.sign fun ch => Pd (.bl (decide (ch ∈ s.cps.toList)))) := by cases x <;> rfl
theorem go_inL : Go (dInG k x (.lst xs) Pd) = Go (optP (inG k x xs) fun b => Pd (.bl b)) := by cases x <;> rfl
theorem go_inT : Go (dInG k x (.tup xs) Pd) = Go (optP (inG k x xs) fun b => Pd (.bl b)) := by cases x <;> rfl
theorem go_ninS {s : Str} : Go (dInG true x (.str s) Pd) = Go (optP x.sign fun ch => Pd (.bl (!decide (ch ∈ s.cps.toList)))) := by cases x <;> rfl
theorem go_eqbl {k l : Bool} : Go (dEq (.bl k) (.bl l) Pd) = Go (Pd (.bl (decide (k = l)))) := by unfold Go; rw [eq_bl]
theorem go_nebl {k l : Bool} : Go (dNe (.bl k) (.bl l) Pd) = Go (Pd (.bl (!decide (k = l)))) := by unfold Go; rw [ne_bl]
theorem go_eqint : Go (dEq (.int n) (.int m) Pd) = Go (Pd (.bl (decide (n = m)))) := by unfold Go; rw [eq_int]
theorem go_neint : Go (dNe (.int n) (.int m) Pd) = Go (Pd (.bl (!decide (n = m)))) := by unfold Go; rw [ne_int]
theorem go_isi {s : String} : Go (dIsi [x, .raw (.ty s)] Pd) = Go (optP (isD x s) fun b => Pd (.bl b)) := by cases x <;> rfl
theorem go_isi2 {s s' : String} : Go (dIsi2 s s' x Pd) = Go (optP (isD2 x s s') fun b => Pd (.bl b)) := (rfl)
theorem go_len : Go (dLen [x] Pd) = Go (dLen1 x Pd) := (rfl)
theorem go_lenS {s : Str} : Go (dLen1 (.str s) Pd) = Go (s.length ≤ sizeLine ∧ Pd (.int s.length)) := (rfl)
theorem go_lenL : Go (dLen1 (.lst xs) Pd) = Go (Pd (.int xs.length)) := (rfl)
theorem go_lenT : Go (dLen1 (.tup xs) Pd) = Go (Pd (.int xs.length)) := (rfl)
theorem go_int1 : Go (dInt1 [.int n] Pd) = Go (Pd (.int n)) := (rfl)
theorem go_intb : Go (dInt1 [.bl k] Pd) = Go (Pd (.int (if k then 1 else 0))) := (rfl)
theorem go_abs : Go (dAbs [.int n] Pd) = Go (Pd (.int (if n < 0 then -n else n))) := (rfl)
theorem go_max : Go (dMax2 [.int n, .int m] Pd) = Go (Pd (.int (if m > n then m else n))) := (rfl)
theorem go_min : Go (dMin2 [.int n, .int m] Pd) = Go (Pd (.int (if m < n then m else n))) := (rfl)
theorem go_lol : Go (dListOf [.lst xs] Pd) = Go (Pd (.lst xs)) := (rfl)
theorem go_lot : Go (dListOf [.tup xs] Pd) = Go (Pd (.lst xs)) := (rfl)
theorem go_tol : Go (dTupOf [.lst xs] Pd) = Go (Pd (.tup xs)) := (rfl)
theorem go_tot : Go (dTupOf [.tup xs] Pd) = Go (Pd (.tup xs)) := (rfl)
theorem go_all : Go (dAll [.lst xs] Pd) = Go (optP (asBls xs) fun bs => Pd (.bl (bs.all id))) := (rfl)
theorem go_any : Go (dAny [.lst xs] Pd) = Go (optP (asBls xs) fun bs => Pd (.bl (bs.any id))) := (rfl)
theorem go_ixL : Go (dIx (.lst xs) (.int n) Pd) = Go (optP (atI xs n) Pd) := (rfl)
theorem go_ixT : Go (dIx (.tup xs) (.int n) Pd) = Go (optP (atI xs n) Pd) := (rfl)
theorem go_ixS {s : Str} : Go (dIx (.str s) (.int n) Pd) = Go (s.length ≤ sizeLine ∧ optP (atI s.cps.toList n) fun k => Pd (.str ⟨#[k]⟩)) := (rfl)
theorem go_noPart {PO : Option Int → Prop} : Go (dNoPart ρ PO) = Go (PO none) := (rfl)
theorem go_part {PO : Option Int → Prop} : Go (dPart a ρ PO) = Go (a ρ fun d _ => asInt d fun i => PO (some i)) := (rfl)
theorem go_sl {lo hi : DO} : Go (dSl a lo hi ρ P) = Go (a ρ fun x b => lo ρ fun l => hi ρ fun u => slD x b l u P) := (rfl)
theorem go_slL {l u : Option Int} : Go (slD (.lst xs) k l u P) = Go (P (.lst (cutD xs l u)) k) := (rfl)
theorem go_slS {s : Str} {l u : Option Int} : Go (slD (.str s) k l u P) = Go (s.length ≤ sizeLine ∧ P (.str (cutS s l u)) false) := (rfl)
theorem go_chain : Go (dChain r r' a b e ρ P) = Go (a ρ fun x b1 => b ρ fun y b' => r x y fun z => asBl z fun k => if k = true then e ρ fun w b'' => r' y w fun z => P z (dirt z (b' || b'')) else P (.bl false) false) := (rfl)
theorem go_split : Go (dSplit a b ρ P) = Go (a ρ fun x _ => asStr x fun s => b ρ fun y _ => asStr y fun s' => ((s'.length == 0) = false ∧ s.length + 2 ≤ sizeLine) ∧ P (.lst ((Txt.split s s').map D.str)) false) := (rfl)
theorem go_join : Go (dJoin a b ρ P) = Go (a ρ fun x _ => asStr x fun s => b ρ fun y _ => optP (strsOf y) fun ys => (ys.map (·.length)).sum + ys.length * s.length ≤ 16777216 ∧ P (.str (Txt.join s ys)) false) := (rfl)
theorem go_walk : Go (dWalk a ρ PI) = Go (a ρ fun d b => b = false ∧ optP d.walked PI) := (rfl)
theorem go_rng1 : Go (dRange1 a ρ PI) = Go (a ρ fun d _ => asInt d fun n => n < 4611686018427387904 ∧ -4611686018427387904 ≤ n ∧ PI (rangeD 0 n.toNat)) := (rfl)
theorem go_rng2 : Go (dRange2 a b ρ PI) = Go (a ρ fun d _ => b ρ fun d' _ => asInt d fun a => asInt d' fun n => (a < 4611686018427387904 ∧ -4611686018427387904 ≤ a ∧ n < 4611686018427387904 ∧ -4611686018427387904 ≤ n) ∧ PI (rangeD a (n - a).toNat)) := (rfl)
theorem go_zip : Go (dZip a b ρ PI) = Go (a ρ fun x c1 => b ρ fun y c2 => (c1 = false ∧ c2 = false) ∧ zip2 x y PI) := (rfl)
theorem go_zipL : Go (zip2 (.lst xs) (.lst ys) PI) = Go (PI (zipD xs ys)) := (rfl)
theorem go_zipT : Go (zip2 (.tup xs) (.tup ys) PI) = Go (PI (zipD xs ys)) := (rfl)
theorem go_enum : Go (dEnum a ρ PI) = Go (a ρ fun x c1 => c1 = false ∧ enum1 x PI) := (rfl)
theorem go_enumL : Go (enum1 (.lst xs) PI) = Go (PI (enumD xs)) := (rfl)
theorem go_lc {vs : List Nat} : Go (dLc di g t e vs ρ P) = Go (di ρ fun xs => lcGo g t e vs ρ [] xs fun acc => P (.lst acc) false) := (rfl)
theorem go_for : Go (dFor di g A Dd ρ) = Go (di ρ fun xs => dLoop g A Dd xs ρ) := (rfl)
theorem go_call {bag : Option (Addr × Addr)} {nn : Nat} {dT : DF} {dd : List D} : Go (dCall bag nn dT dd da ρ P) = Go (da ρ fun xs b => (xs ++ dd).length = nn ∧ dT bag (xs ++ dd) (fun z => P z (dirt z b)) fun _ _ => False) := (rfl)
theorem go_callN {bag : Option (Addr × Addr)} {nn kk mm : Nat} {dT : DF} {gD : List D → List D → List D} : Go (dCallN bag nn kk mm dT gD da dk ρ P) = Go (da ρ fun xs b => dk ρ fun ys b' => (xs.length = kk ∧ ys.length = mm) ∧ (gD xs ys).length = nn ∧ dT bag (gD xs ys) (fun z => P z (dirt z (b || b'))) fun _ _ => False) := (rfl)
theorem go_asgO : Go (dAsgO dn i Dd ρ) = Go (dn ρ fun ds => Dd.nx (ρ.set i (some (Ent.own ds)))) := (rfl)
theorem go_nlst : Go (dnLst da ρ PI) = Go (da ρ fun xs b => b = false ∧ xs.length ≤ sizeLine ∧ PI xs) := (rfl)
theorem go_nlo : Go (dnListOf a ρ PI) = Go (a ρ fun d b => b = false ∧ optP d.items PI) := (rfl)
theorem go_append : Go (dAppend i dx Dd ρ) = Go (dEntOwn ρ i fun _ => dx ρ fun d ρ' => dEntOwn ρ' i fun ds => ds.length < sizeLine ∧ Dd.nx (ρ'.set i (some (Ent.own (ds ++ [d]))))) := (rfl)
theorem go_entOwn : Go (dEntOwn ρ i PI) = Go (ownE ρ[i]? PI) := (rfl)
theorem go_ownE : Go (ownE (some (some (Ent.own xs))) PI) = Go (PI xs) := (rfl)
theorem go_dxE : Go (dxE a ρ PX) = Go (a ρ fun d b => b = false ∧ PX d ρ) := (rfl)
theorem go_dxIf : Go (dxIf t dx dy ρ PX) = Go (t ρ fun k => if k = true then dx ρ PX else dy ρ PX) := (rfl)
theorem go_asgX : Go (dAsgX dx i Dd ρ) = Go (dx ρ fun d ρ' => Dd.nx (ρ'.set i (some (Ent.val d)))) := (rfl)
theorem go_popAt : Go (dxPopAt i a ρ PX) = Go (dEntOwn ρ i fun ds => a ρ fun d _ => asInt d fun k => (-9223372036854775808 ≤ k ∧ k < 9223372036854775808) ∧ optP (seqIndex? k ds.length) fun j => optP ds[j]? fun y => PX y (ρ.set i (some (Ent.own (ds.eraseIdx j))))) := (rfl)
theorem go_pop : Go (dxPop i ρ PX) = Go (dEntOwn ρ i fun ds => optP ds[ds.length - 1]? fun y => PX y (ρ.set i (some (Ent.own ds.dropLast)))) := (rfl)
theorem go_setIx : Go (dSetIx i a b Dd ρ) = Go (a ρ fun d c1 => dEntOwn ρ i fun ds => b ρ fun k _ => c1 = false ∧ asInt k fun k => optP (ixN ds.length k) fun j => Dd.nx (ρ.set i (some (Ent.own (ds.set j d))))) := (rfl)
theorem go_freeze : Go (dFreeze i A Dd ρ) = Go (A Dd (frz1 ρ i ρ[i]?)) := (rfl)
theorem frz_own : frz1 ρ i (some (some (Ent.own xs))) = ρ.set i (some (Ent.val (.lst xs))) := (rfl)
theorem frz_val : frz1 ρ i (some (some (Ent.val x))) = ρ := (rfl)
theorem go_parVV : Go (dParVV i j a b Dd ρ) = Go (a ρ fun x c1 => b ρ fun y c2 => (c1 = false ∧ c2 = false) ∧ Dd.nx ((ρ.set i (some (Ent.val x))).set j (some (Ent.val y)))) := (rfl)
theorem go_parOV : Go (dParOV i j dn b Dd ρ) = Go (dn ρ fun xs => b ρ fun y c2 => c2 = false ∧ Dd.nx ((ρ.set i (some (Ent.own xs))).set j (some (Ent.val y)))) := (rfl)
theorem go_parVO : Go (dParVO i j a dn Dd ρ) = Go (a ρ fun x c1 => dn ρ fun ys => c1 = false ∧ Dd.nx ((ρ.set i (some (Ent.val x))).set j (some (Ent.own ys)))) := (rfl)
theorem go_parOO : Go (dParOO i j dn dm Dd ρ) = Go (dn ρ fun xs => dm ρ fun ys => Dd.nx ((ρ.set i (some (Ent.own xs))).set j (some (Ent.own ys)))) := (rfl)
theorem go_neg : Go (dNeg (.int n) Pd) = Go (Pd (.int (-n))) := (rfl)
end
end QD

namespace Kx
open PySem L2 QD

local macro_rules | `(tactic| walk_at "qd") => `(tactic| ((show Go _); (simp only [go_and, go_var, go_val, go_own, go_c, go_op, go_un, go_nil, go_cons, go_cb, go_tup, go_lst, go_test, go_asBl, go_asInt, go_asStr, go_some, go_dand, go_dor, go_dnot, go_ifE, go_andV, go_orV, go_notV, go_iT, go_iF, go_next, go_seq, go_if, go_ret, go_retN, go_brk, go_cont, go_drop, go_asg, go_gname, go_gpair, go_II, go_IC, go_addI, go_addS, go_addL, go_mulI, go_mulS, go_mulL, go_is, go_isnot, go_inS, go_inL, go_inT, go_ninS, go_eqbl, go_nebl, go_eqint, go_neint, go_isi, go_isi2, go_len, go_lenS, go_lenL, go_lenT, go_int1, go_intb, go_abs, go_max, go_min, go_lol, go_lot, go_tol, go_tot, go_all, go_any, go_ixL, go_ixT, go_ixS, go_noPart, go_part, go_sl, go_slL, go_slS, go_chain, go_split, go_join, go_walk, go_rng1, go_rng2, go_zip, go_zipL, go_zipT, go_enum, go_enumL, go_lc, go_for, go_call, go_callN, go_asgO, go_nlst, go_nlo, go_append, go_entOwn, go_ownE, go_dxE, go_dxIf, go_asgX, go_popAt, go_pop, go_setIx, go_freeze, frz_own, frz_val, go_parVV, go_parOV, go_parVO, go_parOO, go_neg, dirt, D.flat, tyName, D.isNon, D.sign, D.toV, toVs, D.walked, D.items, strsOf, isD, isD2, inG, dstart, List.map, List.length, List.replicate, List.append, List.cons_append, List.nil_append, List.append_nil, List.getElem?_cons_zero, List.getElem?_cons_succ, List.set_cons_zero, List.set_cons_succ, Option.bind_some, Option.bind_none, if_true, if_false, Bool.false_eq_true, Bool.true_and, Bool.and_true, Bool.false_and, Bool.and_false, Bool.or_false, Bool.false_or, Bool.true_or, Bool.or_true, Bool.not_true, Bool.not_false, reduceIte, decide_true, decide_false, Nat.reduceAdd, Nat.reduceSub, Nat.zero_add, true_and, and_true, ty_NoneType_str, ty_NoneType_int, ty_NoneType_bool, ty_NoneType_list, ty_NoneType_tuple, ty_bool_str, ty_bool_int, ty_bool_bool, ty_bool_list, ty_bool_tuple, ty_int_str, ty_int_int, ty_int_bool, ty_int_list, ty_int_tuple, ty_str_str, ty_str_int, ty_str_bool, ty_str_list, ty_str_tuple, ty_list_str, ty_list_int, ty_list_bool, ty_list_list, ty_list_tuple, ty_tuple_str, ty_tuple_int, ty_tuple_bool, ty_tuple_list, ty_tuple_tuple]); (try dsimp only [Go])))
local macro_rules | `(tactic| walk_at "q0") => `(tactic| ((show Go _); (simp only [go_gname, go_gpair, List.set_cons_zero, List.set_cons_succ]); (try dsimp only [Go])))

def top (i : Nat) : Stmt := PySem.Challenge.pw_pairbinds_k01_words_judged.main.body.getD i (.Pass ⟨0, 0, 0, 0⟩)
def madeOf (x : Str) (cs : Str) (m : Int) : Bool := !(decide ((x.length : Int) < 1) || decide ((x.length : Int) > m)) && x.cps.toList.all fun k => decide (k ∈ cs.cps.toList)
/-- an argument that a test may be asked of -/
def okArg : D → Prop
  | .str x => x.length ≤ sizeLine
  | .ins _ _ => False
  | .raw _ => False
  | _ => True
def madeD (d : D) (cs : Str) (m : Int) : Bool := match d with
  | .str x => madeOf x cs m
  | _ => false
theorem asBls_all (ks : List Nat) (p : Nat → Bool) : asBls (ks.map fun k => D.bl (p k)) = some (ks.map p) := by
  have := asBls_map (ks.map p)
  rw [List.map_map] at this
  exact this
def sSIGNS : Str := "!#&*+,-./:;<=>?\x40[]^{|}"
def sLETTERS : Str := "abcdefghijklmnopqrstuvwxyz"
theorem atI_mem {α : Type} {xs : List α} {k : Int} (h0 : 0 ≤ k) (h1 : k < (xs.length : Int)) : ∃ x, x ∈ xs ∧ atI xs k = some x := by
  have hk : k.toNat < xs.length := by omega
  refine ⟨xs[k.toNat], List.getElem_mem _, ?_⟩
  unfold atI ixN
  rw [if_pos h0, if_pos h1]
  show xs[k.toNat]? = _
  exact List.getElem?_eq_getElem hk
theorem pos_len {α : Type} {xs : List α} (h : xs ≠ []) : 0 < xs.length := List.length_pos_iff.mpr h
/-- one sign of cs -/
def signOf (cs : Str) (d : D) : Prop := ∃ k, k ∈ cs.cps.toList ∧ d = .str ⟨#[k]⟩
theorem signs_list {cs : Str} : ∀ {ds : List D}, (∀ d, d ∈ ds → signOf cs d) → ∃ ks : List Nat, ks.length = ds.length ∧ ds = ks.map (fun k => D.str ⟨#[k]⟩) ∧ ∀ k, k ∈ ks → k ∈ cs.cps.toList
  | [], _ => ⟨[], rfl, rfl, fun k h => by simp at h⟩
  | d :: ds, h => by
    obtain ⟨k, hk, rfl⟩ := h d List.mem_cons_self
    obtain ⟨ks, h0, h1, h2⟩ := signs_list fun e he => h e (List.mem_cons_of_mem _ he)
    refine ⟨k :: ks, by rw [List.length_cons, List.length_cons, h0], by rw [h1]; rfl, fun j hj => ?_⟩
    rcases List.mem_cons.mp hj with rfl | hj
    · exact hk
    · exact h2 j hj
theorem asStrs_signs (ks : List Nat) : asStrs (ks.map fun k => D.str ⟨#[k]⟩) = some (ks.map fun k => (⟨#[k]⟩ : Str)) := by
  have := asStrs_map (ks.map fun k => (⟨#[k]⟩ : Str))
  rw [List.map_map] at this
  exact this
theorem sum_ones (ks : List Nat) : ((ks.map fun k => (⟨#[k]⟩ : Str)).map (·.length)).sum = ks.length := by
  induction ks with
  | nil => rfl
  | cons k r ih =>
    simp only [List.map_cons, List.sum_cons, List.length_cons, ih]
    have : (⟨#[k]⟩ : Str).length = 1 := rfl
    omega
/-- the end of a join of signs -/
theorem join_end {cs : Str} {ds : List D} {P : Str → Prop} (h : ∀ d, d ∈ ds → signOf cs d) (hl : ds.length ≤ 1000000) (q : ∀ z : Str, z.length = ds.length → among z cs → P z) :
    ∃ ys, asStrs ds = some ys ∧ (ys.map (·.length)).sum + ys.length * (Str.ofString "").length ≤ 16777216 ∧ P (Txt.join (Str.ofString "") ys) := by
  obtain ⟨ks, h0, rfl, h2⟩ := signs_list h
  refine ⟨_, asStrs_signs ks, ?_, ?_⟩
  · rw [sum_ones]
    have e : (Str.ofString "").length = 0 := by decide +kernel
    rw [e, List.length_map] at *
    omega
  · rw [join_signs]
    refine q _ ?_ fun k hk => h2 k (by simpa using hk)
    show ks.toArray.size = _
    rw [List.size_toArray, List.length_map]
theorem lenSMALL : sLETTERS.cps.toList.length = 26 := by decide +kernel
theorem lenSIGNS : sSIGNS.cps.toList.length = 22 := by decide +kernel
theorem okSMALL : PyData.strOk sLETTERS = true := by decide +kernel
theorem okSIGNS : PyData.strOk sSIGNS = true := by decide +kernel
theorem walk_signs {cs : Str} (hne : cs.cps.toList ≠ []) : (cs.cps.toList.map fun k => D.str ⟨#[k]⟩) ≠ [] := fun e => hne (List.map_eq_nil_iff.mp e)
theorem sign_mem {cs : Str} {d : D} (h : d ∈ cs.cps.toList.map fun k => D.str ⟨#[k]⟩) : signOf cs d := by
  obtain ⟨k, hk, e⟩ := List.mem_map.mp h
  exact ⟨k, hk, e.symm⟩
theorem lc_signs {i : Nat} {de : DE} {vs : List Nat} {ρ : DEnv} {x cs : Str} {Pd : D → Prop} (hx : x.length ≤ sizeLine)
    (h : ∀ (k : Nat) (Q : D → Bool → Prop), Q (.bl (decide (k ∈ cs.cps.toList))) false → de ((dwipe ρ vs).set i (some (Ent.val (.str ⟨#[k]⟩)))) Q) (hP : Pd (.bl (x.cps.toList.all fun k => decide (k ∈ cs.cps.toList)))) :
    lcGo (dGName i) (fun _ P => P true) de vs ρ [] (x.cps.toList.map fun k => D.str ⟨#[k]⟩) fun acc => dAll [.lst acc] Pd := by
  refine lcGo_name (fun d => match d.sign with | some k => .bl (decide (k ∈ cs.cps.toList)) | none => .non) _ _ (fun y hy Q q => ?_) ?_ ?_
  · obtain ⟨k, _, rfl⟩ := List.mem_map.mp hy
    exact h k Q q
  · have hl := len_list x
    rw [List.length_map, hl]
    show 0 + x.length ≤ sizeLine
    omega
  · rw [List.map_map, List.nil_append]
    have e2 : (List.map ((fun d : D => match d.sign with | some k => D.bl (decide (k ∈ cs.cps.toList)) | none => .non) ∘ fun k => D.str ⟨#[k]⟩) x.cps.toList) = x.cps.toList.map fun k => D.bl (decide (k ∈ cs.cps.toList)) := rfl
    rw [e2]
    show optP (asBls _) _
    rw [asBls_all]
    have e3 : (x.cps.toList.map fun k => decide (k ∈ cs.cps.toList)).all id = x.cps.toList.all fun k => decide (k ∈ cs.cps.toList) := by
      rw [List.all_map]; rfl
    show Pd (.bl _)
    rw [e3]
    exact hP
/-- a sign in a text -/
theorem in_sign {k : Nat} {cs : Str} {P : D → Prop} (q : P (.bl (decide (k ∈ cs.cps.toList)))) : dInG false (.str ⟨#[k]⟩) (.str cs) P := q
def isWordL (d : D) : Bool := madeD d sSIGNS 3 || madeD d sLETTERS 8
/-- the statements of a law behind the making of its bag -/
theorem law_rest {K : PySem.W.Frag} {c : Fm} {H1 : Hp} {b : Addr × Addr} {a : Addr} {Q : VK} {ts : TS} {ds : DS} {D : Ends} {σ : L2.St} {n : Nat} (q : ∀ H', Q (.bl true) H') (h : SimS K c H1 ts ds) (hc : c = Fm.law b) (_hb : b.1 ≠ b.2) (hB : BagAt [b.1] H1 b)
    (hσ : σ = some (.ref a) :: some (.ref b.1) :: List.replicate n none) (hd : ds { nx := fun _ => False, rt := fun d => d = .bl true } (none :: some (Ent.val (.raw (.ref b.1))) :: List.replicate n none)) (hD : D.rt = Q := by rfl) : ts D σ H1 := by
  subst hc hσ
  refine h _ _ hd [] _ H1 D (but H1 (Fm.law b).M) ⟨hB, hB, Ex.refl _, fun a h => by simp at h, fun a h => by simp at h, ?_, fun i d e => ?_, fun i es e => ?_, fun i j es fs p e => ?_⟩ (by rw [List.append_nil]; exact Grow.refl _) ⟨fun _ _ _ _ z => z.elim, fun v d H z i e r => ?_, fun _ _ _ _ z => z.elim, fun _ _ _ _ z => z.elim⟩
  · rw [List.length_cons, List.length_cons, List.length_cons, List.length_cons, List.length_replicate, List.length_replicate]
  · match i, e with
    | 0, e => cases e
    | 1, e => cases e; exact ⟨_, rfl, rfl⟩
    | i + 2, e =>
      simp only [List.getElem?_cons_succ, List.getElem?_replicate] at e
      split at e <;> cases e
  · match i, e with
    | 0, e => cases e
    | 1, e => cases e
    | i + 2, e =>
      simp only [List.getElem?_cons_succ, List.getElem?_replicate] at e
      split at e <;> cases e
  · match i, e with
    | 0, e => cases e
    | 1, e => cases e
    | i + 2, e =>
      simp only [List.getElem?_cons_succ, List.getElem?_replicate] at e
      split at e <;> cases e
  · subst z
    rw [show v = .bl true from r, hD]
    exact q H
def okB (d : D) : Bool := (match d with | .str x => decide (x.length ≤ 1000) | .ins _ _ => false | .raw _ => false | _ => true) && pl d && decide (dep d ≤ 2)
theorem okB_arg {d : D} (h : okB d = true) : okArg d := by
  unfold okB at h
  simp only [Bool.and_eq_true] at h
  cases d with
  | str x =>
    have h1 := of_decide_eq_true h.1.1
    have : sizeLine = 16777216 := sizeLine_eq
    show x.length ≤ sizeLine
    omega
  | ins _ _ => cases h.1.1
  | raw _ => cases h.1.1
  | non => exact True.intro
  | bl _ => exact True.intro
  | int _ => exact True.intro
  | lst _ => exact True.intro
  | tup _ => exact True.intro
theorem okB_str {x : Str} (h1 : PyData.strOk x = true) (h2 : x.length ≤ 1000) : okB (.str x) = true := by
  have h3 : decide (x.length ≤ 1000000) = true := decide_eq_true (by omega)
  have h4 : decide (x.length ≤ 1000) = true := decide_eq_true h2
  show (decide (x.length ≤ 1000) && (PyData.strOk x && decide (x.length ≤ 1000000)) && decide (0 ≤ 2)) = true
  rw [h1, h3, h4]
  rfl
theorem strOk_cut {z : Str} (h : PyData.strOk z = true) (lo hi : Option Int) : PyData.strOk (cutS z lo hi) = true := by
  unfold PyData.strOk at h ⊢
  rw [← Array.all_toList] at h ⊢
  refine List.all_eq_true.mpr fun k hk => List.all_eq_true.mp h k ?_
  unfold cutS at hk
  exact List.mem_of_mem_drop (List.mem_of_mem_take (by simpa using hk))
theorem mulOk {z : Str} {n : Int} (h : (decide (z.length ≤ 1000) && decide (0 ≤ n) && decide (n ≤ 1000)) = true) : MulOk z n := by
  simp only [Bool.and_eq_true, decide_eq_true_eq] at h
  obtain ⟨⟨h1, h2⟩, h3⟩ := h
  refine ⟨?_, fun h4 _ h5 => ?_, fun _ _ => ?_⟩
  · rw [Bool.or_eq_false_iff]
    exact ⟨decide_eq_false (by omega), decide_eq_false (by omega)⟩
  · have : (1000 : Int) ≤ (2 ^ 63 - 1) / n := (Int.le_ediv_iff_mul_le (by omega)).mpr (by omega)
    omega
  · unfold Builtin.Str.tooLong
    have : sizeLine = 16777216 := sizeLine_eq
    have h6 : n.toNat ≤ 1000 := by omega
    have : z.length * n.toNat ≤ 1000 * 1000 := Nat.mul_le_mul h1 h6
    exact decide_eq_false (by omega)
theorem len_rangeD {lo : Int} {n : Nat} : (rangeD lo n).length = n := by unfold rangeD; rw [List.length_map, List.length_range]
theorem made_false {x cs : Str} {m : Int} (h : ¬ (1 ≤ (x.length : Int) ∧ (x.length : Int) ≤ m)) : madeD (.str x) cs m = false := by
  show madeOf x cs m = false
  unfold madeOf
  have : (decide ((x.length : Int) < 1) || decide ((x.length : Int) > m)) = true := by
    rw [Bool.or_eq_true, decide_eq_true_eq, decide_eq_true_eq]
    omega
  rw [this]
  rfl
theorem made_true {x cs : Str} {m : Int} (h : 1 ≤ (x.length : Int) ∧ (x.length : Int) ≤ m) : madeD (.str x) cs m = x.cps.toList.all fun k => decide (k ∈ cs.cps.toList) := by
  show madeOf x cs m = _
  unfold madeOf
  have : (decide ((x.length : Int) < 1) || decide ((x.length : Int) > m)) = false := by
    rw [Bool.or_eq_false_iff, decide_eq_false_iff_not, decide_eq_false_iff_not]
    omega
  rw [this]
  rfl
theorem asg_cut {e : DE} {i : Nat} {Dd : DEnds} {ρ : DEnv} (S : D → Prop) (h1 : ∀ P : D → Bool → Prop, (∀ d, S d → P d false) → e ρ P) (h2 : ∀ d, S d → Dd.nx (ρ.set i (some (Ent.val d)))) : dAsg e (dGName i) Dd ρ := h1 _ fun d hd => ⟨rfl, h2 d hd⟩
theorem seq_asg_cut {e : DE} {i : Nat} {B : DS} {Dd : DEnds} {ρ : DEnv} (S : D → Prop) (h1 : ∀ P : D → Bool → Prop, (∀ d, S d → P d false) → e ρ P) (h2 : ∀ d, S d → B Dd (ρ.set i (some (Ent.val d)))) : dSeq (dAsg e (dGName i)) B Dd ρ := h1 _ fun d hd => ⟨rfl, h2 d hd⟩
def isShort (n : Nat) (d : D) : Bool := match d with | .str s => PyData.strOk s && decide (s.length ≤ n) | _ => false
def shortStr (n : Nat) (d : D) : Prop := ∃ s, d = .str s ∧ PyData.strOk s = true ∧ s.length ≤ n
theorem isShort_of {n : Nat} {d : D} (h : isShort n d = true) : shortStr n d := by
  cases d with
  | str s =>
    simp only [isShort, Bool.and_eq_true] at h
    exact ⟨s, rfl, h.1, of_decide_eq_true h.2⟩
  | _ => cases h
theorem of_all {α : Type} {p : α → Bool} {xs : List α} {d : α} (hd : d ∈ xs) (h : xs.all p = true) : p d = true := List.all_eq_true.mp h d hd
theorem short_mem {n : Nat} {xs : List D} {d : D} (hd : d ∈ xs) (h : xs.all (isShort n) = true) : shortStr n d := isShort_of (of_all hd h)
theorem sl16 {n : Nat} (h : n ≤ 1000000) : n ≤ sizeLine := Nat.le_trans h (by decide)
theorem sl16' {n : Nat} (h : n ≤ 1000000) : n < sizeLine := Nat.lt_of_le_of_lt h (by decide)
theorem okB_pl {d : D} (h : okB d = true) : pl d = true ∧ dep d ≤ 2 := by
  unfold okB at h
  simp only [Bool.and_eq_true, decide_eq_true_eq] at h
  exact ⟨h.1.2, h.2⟩

abbrev s__law_bag : Stmt := top 10
abbrev s__law_small : Stmt := top 14
abbrev s__law_is_letters : Stmt := top 18
abbrev s__law_signs : Stmt := top 15
abbrev s__law_is_sign : Stmt := top 19
abbrev s__law_pull : Stmt := top 11
abbrev s__law_of : Stmt := top 12
abbrev s__law_letters : Stmt := top 16
abbrev s__law_same : Stmt := top 13
abbrev s__law_signed : Stmt := top 17
abbrev s__is_made_of : Stmt := top 5
abbrev s_is_letter_word : Stmt := top 7
abbrev s__is_sign_word : Stmt := top 6
abbrev s_is_word : Stmt := top 8
abbrev s_law : Stmt := top 20
structure Txt (K : PySem.W.Frag) (mg : Str → Option Value) where
  a__law_bag : Addr
  fd__law_bag : FuncData
  F__law_bag : Fun K "_law_bag" "_law_bag" s__law_bag a__law_bag fd__law_bag
  g__law_bag : mg "_law_bag" = some (.ref a__law_bag)
  n__law_bag : Binds K fd__law_bag ["_law_script"] []
  a__law_small : Addr
  fd__law_small : FuncData
  F__law_small : Fun K "_law_small" "_law_small" s__law_small a__law_small fd__law_small
  g__law_small : mg "_law_small" = some (.ref a__law_small)
  n__law_small : Binds K fd__law_small [] []
  a__law_is_letters : Addr
  fd__law_is_letters : FuncData
  F__law_is_letters : Fun K "_law_is_letters" "_law_is_letters" s__law_is_letters a__law_is_letters fd__law_is_letters
  g__law_is_letters : mg "_law_is_letters" = some (.ref a__law_is_letters)
  n__law_is_letters : Binds K fd__law_is_letters ["_law_thing"] []
  a__law_signs : Addr
  fd__law_signs : FuncData
  F__law_signs : Fun K "_law_signs" "_law_signs" s__law_signs a__law_signs fd__law_signs
  g__law_signs : mg "_law_signs" = some (.ref a__law_signs)
  n__law_signs : Binds K fd__law_signs [] []
  a__law_is_sign : Addr
  fd__law_is_sign : FuncData
  F__law_is_sign : Fun K "_law_is_sign" "_law_is_sign" s__law_is_sign a__law_is_sign fd__law_is_sign
  g__law_is_sign : mg "_law_is_sign" = some (.ref a__law_is_sign)
  n__law_is_sign : Binds K fd__law_is_sign ["_law_thing"] []
  a__law_pull : Addr
  fd__law_pull : FuncData
  F__law_pull : Fun K "_law_pull" "_law_pull" s__law_pull a__law_pull fd__law_pull
  g__law_pull : mg "_law_pull" = some (.ref a__law_pull)
  n__law_pull : Binds K fd__law_pull ["_law_bag_here", "_law_many"] []
  a__law_of : Addr
  fd__law_of : FuncData
  F__law_of : Fun K "_law_of" "_law_of" s__law_of a__law_of fd__law_of
  g__law_of : mg "_law_of" = some (.ref a__law_of)
  n__law_of : Binds K fd__law_of ["_law_bag_here", "_law_some"] []
  a__law_letters : Addr
  fd__law_letters : FuncData
  F__law_letters : Fun K "_law_letters" "_law_letters" s__law_letters a__law_letters fd__law_letters
  g__law_letters : mg "_law_letters" = some (.ref a__law_letters)
  n__law_letters : Binds K fd__law_letters ["_law_bag_here", "_law_most_z"] []
  a__law_same : Addr
  fd__law_same : FuncData
  F__law_same : Fun K "_law_same" "_law_same" s__law_same a__law_same fd__law_same
  g__law_same : mg "_law_same" = some (.ref a__law_same)
  n__law_same : Binds K fd__law_same ["_law_found", "_law_due"] []
  a__law_signed : Addr
  fd__law_signed : FuncData
  F__law_signed : Fun K "_law_signed" "_law_signed" s__law_signed a__law_signed fd__law_signed
  g__law_signed : mg "_law_signed" = some (.ref a__law_signed)
  n__law_signed : Binds K fd__law_signed ["_law_bag_here"] []
  a__is_made_of : Addr
  fd__is_made_of : FuncData
  F__is_made_of : Fun K "_is_made_of" "_is_made_of" s__is_made_of a__is_made_of fd__is_made_of
  g__is_made_of : mg "_is_made_of" = some (.ref a__is_made_of)
  n__is_made_of : Binds K fd__is_made_of ["value", "characters", "most"] []
  a_is_letter_word : Addr
  fd_is_letter_word : FuncData
  F_is_letter_word : Fun K "is_letter_word" "is_letter_word" s_is_letter_word a_is_letter_word fd_is_letter_word
  g_is_letter_word : mg "is_letter_word" = some (.ref a_is_letter_word)
  n_is_letter_word : Binds K fd_is_letter_word ["value"] []
  a__is_sign_word : Addr
  fd__is_sign_word : FuncData
  F__is_sign_word : Fun K "_is_sign_word" "_is_sign_word" s__is_sign_word a__is_sign_word fd__is_sign_word
  g__is_sign_word : mg "_is_sign_word" = some (.ref a__is_sign_word)
  n__is_sign_word : Binds K fd__is_sign_word ["value"] []
  a_is_word : Addr
  fd_is_word : FuncData
  F_is_word : Fun K "is_word" "is_word" s_is_word a_is_word fd_is_word
  g_is_word : mg "is_word" = some (.ref a_is_word)
  n_is_word : Binds K fd_is_word ["value"] []
  a_law : Addr
  fd_law : FuncData
  F_law : Fun K "law" "law" s_law a_law fd_law
  g_law : mg "law" = some (.ref a_law)
  b_abs : mg "abs" = none
  b_all : mg "all" = none
  b_bool : mg "bool" = none
  b_int : mg "int" = none
  b_isinstance : mg "isinstance" = none
  b_len : mg "len" = none
  b_list : mg "list" = none
  b_range : mg "range" = none
  b_str : mg "str" = none
  b_tuple : mg "tuple" = none
  b_zip : mg "zip" = none
  t_LETTERS : Tok
  g_LETTERS : mg "LETTERS" = some (.str "abcdefghijklmnopqrstuvwxyz" t_LETTERS)
  t_MOST_LETTERS : Tok
  g_MOST_LETTERS : mg "MOST_LETTERS" = some (.int 8 t_MOST_LETTERS)
  t_MOST_SIGNS : Tok
  g_MOST_SIGNS : mg "MOST_SIGNS" = some (.int 3 t_MOST_SIGNS)
  t_SIGNS : Tok
  g_SIGNS : mg "SIGNS" = some (.str "!#&*+,-./:;<=>?\x40[]^{|}" t_SIGNS)
section
variable {P : Program} {w : World} {K : PySem.W.Frag} {mg : Str → Option Value} {base : Heap}
theorem sc__law_bag : FnScope ["_law_script", "_law_mixed", "_law_cell"] ["_law_script"] (defScope s__law_bag) := ⟨rfl, rfl, rfl, by decide +kernel, rfl, by decide +kernel, by decide +kernel⟩
theorem cut63 {ns : List Int} (h : ns.length ≤ 63) : cutV (ns.map V.int) none (some 63) = ns.map V.int := by
  unfold cutV
  have e1 : HT.sIx (ns.map V.int).length 0 none = 0 := rfl
  have e2 : HT.sIx (ns.map V.int).length (ns.map V.int).length (some 63) = (ns.map V.int).length := by
    unfold HT.sIx
    simp only [List.length_map]
    rw [if_neg (by decide)]
    have : (63 : Int).toNat = 63 := rfl
    omega
  rw [e1, e2, List.drop_zero, Nat.sub_zero, List.take_length]
theorem ok__law_bag (T : Txt K mg) : FnOk P w K mg base CX0 1 T.a__law_bag T.fd__law_bag ["_law_script"] (spBag K) := by
  refine T.F__law_bag.ok sc__law_bag (fun vs H Q E h => ?_) (fun cdv A outer s H vs Q E hr h => ?_)
  · obtain ⟨a, ns, rfl, _⟩ := h
    rfl
  obtain ⟨a, ns, rfl, hS, hl, q⟩ := h
  refine ⟨_, (pss_cons (ps_set (i := 1) sc__law_bag.nd rfl (by first | exact Or.inl rfl | exact Or.inr rfl) pe_int) (pss_cons (ps_for PassesOwn.never (by rfl) (pi_any (pe_slice q_sl (pv 0) po_none (po_some pe_int))) (pg_name (i := 2) sc__law_bag.nd rfl (by first | exact Or.inl rfl | exact Or.inr rfl)) (pss_one (ps_set (i := 1) sc__law_bag.nd rfl (by first | exact Or.inl rfl | exact Or.inr rfl) (pe_op q_mod (pe_callTy q_int1 (by rfl) T.b_int (by decide +kernel) (pa_cons (pe_op q_add (pe_op q_add (pe_op q_mul (pv 1) pe_int) (pe_op q_mul (pe_op q_mod (pe_callTy q_int1 (by rfl) T.b_int (by decide +kernel) (pa_cons (pv 2) pa_nil)) pe_int) pe_int)) pe_int) pa_nil)) pe_int)))) (pss_one (ps_ret (pe_lst (pa_cons (pe_callTy q_listOf (by rfl) T.b_list (by decide +kernel) (pa_cons (pe_slice q_sl (pv 0) po_none (po_some pe_int)) pa_nil)) (pa_cons pe_int (pa_cons pe_int (pa_cons (pv 1) (pa_cons pe_int pa_nil)))))))))), ?_⟩
  refine ⟨_, rfl, 63, rfl, .inl ⟨a, _, rfl, hS, fun p hp => .inl ⟨p, _, rfl, SqL.of upd_same, ?_⟩⟩⟩
  rw [cut63 hl]
  have g0 : Grow H (upd H p (.lst (ns.map V.int))) := Grow.new hp
  refine for_list (K := K) (a := p) (xs := ns.map V.int) (fun i σ H' => ∃ (m : Int) (v : Option V), σ = [some (.ref a), some (.int m), v] ∧ 0 ≤ m ∧ m < 4294967296 ∧ H' = upd H p (.lst (ns.map V.int)))
    ⟨5740, none, rfl, by decide, by decide, rfl⟩ (fun i σ H' _ ⟨m, v, _, _, _, e⟩ => by rw [e]; exact SqL.of upd_same) ?_ ?_
  · rintro i x σ H' hx ⟨m, v, rfl, m0, m1, rfl⟩
    obtain ⟨z, rfl⟩ : ∃ z, x = V.int z := by
      rw [List.getElem?_map] at hx
      obtain ⟨z, _, e⟩ := Option.map_eq_some_iff.mp hx
      exact ⟨z, e.symm⟩
    refine ts_setName (ei_mod (ei_int (ei_add (ei_add (ei_mul (ei_var rfl) ei_c (cmulr ⟨by decide, by decide⟩)) (ei_mul (ei_mod (ei_int (ei_var rfl)) ei_c (by decide)) ei_c (cmulr ⟨by decide, by decide⟩))) ei_c)) ei_c (by decide)) ?_
    exact ⟨_, _, rfl, Int.emod_nonneg _ (by decide), Int.lt_trans (Int.emod_lt_of_pos _ (by decide)) (by decide), rfl⟩
  · rintro σ H' ⟨m, v, rfl, m0, m1, rfl⟩
    refine ⟨_, rfl, 63, rfl, .inl ⟨a, _, rfl, grow_l g0 hS, fun p2 hp2 => ⟨p2, _, rfl, .inl (SqL.of upd_same), fun l hl2 => ⟨_, rfl, by show 5 ≤ sizeLine; decide, fun b hb => ?_⟩⟩⟩⟩
    rw [cut63 hl] at hl2 hb ⊢
    have hne : l ≠ b := fun e => by
      rw [← e, upd_same] at hb
      cases hb
    refine q (b, l) _ (fun e => hne e.symm) ⟨ns, 0, 0, m, 0, upd_same, but_of (fun e => hne (List.mem_singleton.mp e)) ?_, hl, by decide, by omega, by decide, m0, m1, by decide⟩
    rw [upd_ne hne, upd_same]
theorem sc__law_small : FnScope [] [] (defScope s__law_small) := ⟨rfl, rfl, rfl, by decide +kernel, rfl, by decide +kernel, by decide +kernel⟩
def dt__law_small : DF := fun _ ds P _ => P (.str sLETTERS)
theorem cg__law_small {bag : Option (Addr × Addr)} {ds ds' : List D} {P : D → Prop} {Er : DEr} (h : ds = ds') : dt__law_small bag ds P Er = dt__law_small bag ds' P Er := by rw [h]
theorem ok__law_small (T : Txt K mg) : FnOk P w K mg base CX0 1 T.a__law_small T.fd__law_small [] (spD K 0 dt__law_small) := by
  refine okD T.F__law_small sc__law_small rfl fun cdv A outer s H E c hr => ⟨_, _, (pss_one (ps_ret pe_str)), (sim_ret sim_str), fun ds Pd Er hl hd => ?_⟩
  exact hd
theorem sc__law_is_letters : FnScope ["_law_thing", "_law_sign"] ["_law_thing"] (defScope s__law_is_letters) := ⟨rfl, rfl, rfl, by decide +kernel, rfl, by decide +kernel, by decide +kernel⟩
def dt__law_is_letters : DF := fun _ ds P _ => ∃ d, ds = [d] ∧ okArg d ∧ P (.bl (madeD d sLETTERS 8))
theorem cg__law_is_letters {bag : Option (Addr × Addr)} {ds ds' : List D} {P : D → Prop} {Er : DEr} (h : ds = ds') : dt__law_is_letters bag ds P Er = dt__law_is_letters bag ds' P Er := by rw [h]
theorem ok__law_is_letters (T : Txt K mg) : FnOk P w K mg base CX0 2 T.a__law_is_letters T.fd__law_is_letters ["_law_thing"] (spD K 1 dt__law_is_letters) := by
  refine okD T.F__law_is_letters sc__law_is_letters rfl fun cdv A outer s H E c hr => ⟨_, _, (pss_one (ps_ret (pe_and (pe_callB call_isi (by rfl) T.b_isinstance (by decide +kernel) (pa_cons (pv 0) (pa_cons (pe_bltn (v := .ty "str") (by rfl) T.b_str PyProof.Rows.boot_str rfl) pa_nil))) (pe_and (pe_chain q_le q_le pe_int (pe_callB q_len (by rfl) T.b_len (by decide +kernel) (pa_cons (pv 0) pa_nil)) pe_int) (pe_one (pe_callB (cr_all (by rfl)) (by rfl) T.b_all (by decide +kernel) (pa_cons (pe_lc (own := [("_law_sign", 1)]) (by rfl) sc__law_is_letters.nd (pi_any (pv 0)) (blkOk_by (own := [("_law_sign", 1)]) (N := ["_law_thing", "_law_sign"]) (sc := defScope s__law_is_letters) (by decide +kernel)) (fun _ _ _ _ _ => (pg_name (i := 1) sc__law_is_letters.nd rfl (by first | exact Or.inl rfl | exact Or.inr rfl))) (fun _ _ _ _ _ => pts_nil) (fun _ _ _ _ _ => (pe_cmpR q_in (pv 1) (pe_call0 ((ok__law_small T).mono (by decide)) hr (by rfl) T.g__law_small T.F__law_small.kp T.n__law_small .nil pass0) rfl))) pa_nil))))))), (sim_ret (sim_andV (sim_cb sc_isi (sim_cons sim_var (sim_cons sim_ty sim_nil))) (sim_andV (sim_chain sr_le sr_le sim_int (sim_cb sc_len (sim_cons sim_var sim_nil)) sim_int) (sim_cb sc_all (sim_cons (sim_lc (si_any sim_var) sgn_name sim_yes (sim_op sr_in sim_var (sim_call sim_nil))) sim_nil))))), fun ds Pd Er hl hd => ?_⟩
  obtain ⟨d, rfl, ok, hd⟩ := hd
  cases d with
  | str x =>
    walk_at "qd"
    refine ⟨ok, ite2 (fun h1 => ?_) (fun h1 => ?_)⟩
    · refine ite2 (fun h2 => ?_) (fun h2 => ?_)
      · rw [made_true ⟨of_decide_eq_true h1, of_decide_eq_true h2⟩] at hd
        walk_at "qd"
        exact lc_signs (cs := sLETTERS) ok (fun k Q q => ⟨rfl, q⟩) hd
      · rw [made_false fun z => h2 (decide_eq_true z.2)] at hd
        exact hd
    · rw [made_false fun z => h1 (decide_eq_true z.1)] at hd
      exact hd
  | ins _ _ => exact ok.elim
  | raw _ => exact ok.elim
  | _ =>
    walk_at "qd"
    exact hd
theorem sc__law_signs : FnScope [] [] (defScope s__law_signs) := ⟨rfl, rfl, rfl, by decide +kernel, rfl, by decide +kernel, by decide +kernel⟩
def dt__law_signs : DF := fun _ ds P _ => P (.str sSIGNS)
theorem cg__law_signs {bag : Option (Addr × Addr)} {ds ds' : List D} {P : D → Prop} {Er : DEr} (h : ds = ds') : dt__law_signs bag ds P Er = dt__law_signs bag ds' P Er := by rw [h]
theorem ok__law_signs (T : Txt K mg) : FnOk P w K mg base CX0 1 T.a__law_signs T.fd__law_signs [] (spD K 0 dt__law_signs) := by
  refine okD T.F__law_signs sc__law_signs rfl fun cdv A outer s H E c hr => ⟨_, _, (pss_one (ps_ret pe_str)), (sim_ret sim_str), fun ds Pd Er hl hd => ?_⟩
  exact hd
theorem sc__law_is_sign : FnScope ["_law_thing", "_law_sign"] ["_law_thing"] (defScope s__law_is_sign) := ⟨rfl, rfl, rfl, by decide +kernel, rfl, by decide +kernel, by decide +kernel⟩
def dt__law_is_sign : DF := fun _ ds P _ => ∃ d, ds = [d] ∧ okArg d ∧ P (.bl (isWordL d))
theorem cg__law_is_sign {bag : Option (Addr × Addr)} {ds ds' : List D} {P : D → Prop} {Er : DEr} (h : ds = ds') : dt__law_is_sign bag ds P Er = dt__law_is_sign bag ds' P Er := by rw [h]
theorem ok__law_is_sign (T : Txt K mg) : FnOk P w K mg base CX0 3 T.a__law_is_sign T.fd__law_is_sign ["_law_thing"] (spD K 1 dt__law_is_sign) := by
  refine okD T.F__law_is_sign sc__law_is_sign rfl fun cdv A outer s H E c hr => ⟨_, _, (pss_cons (ps_if (pt_val (pe_call ((ok__law_is_letters T).mono (by decide)) hr (by rfl) T.g__law_is_letters T.F__law_is_letters.kp T.n__law_is_letters .nil pass0 (pa_cons (pv 0) pa_nil))) (pss_one (ps_ret pe_bl)) pss_nil) (pss_one (ps_ret (pe_and (pe_callB call_isi (by rfl) T.b_isinstance (by decide +kernel) (pa_cons (pv 0) (pa_cons (pe_bltn (v := .ty "str") (by rfl) T.b_str PyProof.Rows.boot_str rfl) pa_nil))) (pe_and (pe_chain q_le q_le pe_int (pe_callB q_len (by rfl) T.b_len (by decide +kernel) (pa_cons (pv 0) pa_nil)) pe_int) (pe_one (pe_callB (cr_all (by rfl)) (by rfl) T.b_all (by decide +kernel) (pa_cons (pe_lc (own := [("_law_sign", 1)]) (by rfl) sc__law_is_sign.nd (pi_any (pv 0)) (blkOk_by (own := [("_law_sign", 1)]) (N := ["_law_thing", "_law_sign"]) (sc := defScope s__law_is_sign) (by decide +kernel)) (fun _ _ _ _ _ => (pg_name (i := 1) sc__law_is_sign.nd rfl (by first | exact Or.inl rfl | exact Or.inr rfl))) (fun _ _ _ _ _ => pts_nil) (fun _ _ _ _ _ => (pe_cmpR q_in (pv 1) (pe_call0 ((ok__law_signs T).mono (by decide)) hr (by rfl) T.g__law_signs T.F__law_signs.kp T.n__law_signs .nil pass0) rfl))) pa_nil)))))))), (sim_seq (sim_ifS (sim_B (sim_call (sim_cons sim_var sim_nil))) (sim_ret sim_bl) sim_next) (sim_ret (sim_andV (sim_cb sc_isi (sim_cons sim_var (sim_cons sim_ty sim_nil))) (sim_andV (sim_chain sr_le sr_le sim_int (sim_cb sc_len (sim_cons sim_var sim_nil)) sim_int) (sim_cb sc_all (sim_cons (sim_lc (si_any sim_var) sgn_name sim_yes (sim_op sr_in sim_var (sim_call sim_nil))) sim_nil)))))), fun ds Pd Er hl hd => ?_⟩
  obtain ⟨d, rfl, ok, hd⟩ := hd
  unfold isWordL at hd
  cases d with
  | str x =>
    walk_at "qd"
    refine ⟨_, rfl, ok, ?_⟩
    cases h0 : madeD (.str x) sLETTERS 8 with
    | true =>
      rw [h0, Bool.or_true] at hd
      exact hd
    | false =>
      rw [h0, Bool.or_false] at hd
      refine ⟨ok, ite2 (fun h1 => ?_) (fun h1 => ?_)⟩
      · refine ite2 (fun h2 => ?_) (fun h2 => ?_)
        · rw [made_true ⟨of_decide_eq_true h1, of_decide_eq_true h2⟩] at hd
          walk_at "qd"
          exact lc_signs (cs := sSIGNS) ok (fun k Q q => ⟨rfl, q⟩) hd
        · rw [made_false fun z => h2 (decide_eq_true z.2)] at hd
          exact hd
      · rw [made_false fun z => h1 (decide_eq_true z.1)] at hd
        exact hd
  | ins _ _ => exact ok.elim
  | raw _ => exact ok.elim
  | _ =>
    walk_at "qd"
    exact ⟨_, rfl, ok, hd⟩
theorem sc__law_pull : FnScope ["_law_bag_here", "_law_many", "_law_cell", "_law_digit", "_law_twice"] ["_law_bag_here", "_law_many"] (defScope s__law_pull) := ⟨rfl, rfl, rfl, by decide +kernel, rfl, by decide +kernel, by decide +kernel⟩
theorem ok__law_pull (T : Txt K mg) : FnOk P w K mg base CX0 1 T.a__law_pull T.fd__law_pull ["_law_bag_here", "_law_many"] (spD K 2 dtPull) := by
  refine T.F__law_pull.ok sc__law_pull (fun vs H Q E h => ?_) (fun cdv A outer s H vs Q E hr h => ?_)
  · obtain ⟨c, ds, _, _, hl, _, ra, _⟩ := h
    rw [ra.length, hl]
    rfl
  obtain ⟨c, ds, Pd, Er, _, iv, ra, ⟨b, n, hb, rfl, n0, n1, hd⟩, q, _⟩ := h
  obtain ⟨v1, r1, rfl, e1, v2, r2, rfl, e2, e3⟩ := ra
  have e1' : v1 = .ref b.1 := e1
  have e2' : v2 = .int n := e2
  have e3' : r2 = [] := e3
  subst e1' e2' e3'
  obtain ⟨ns, i1, i2, i3, i4, h1, h2, l63, p0, p1, p2, p3, p4, p5⟩ := c.bI b hb H iv
  obtain ⟨hM, h2'⟩ := but_some h2
  have hne : b.2 ≠ b.1 := fun e => by
    rw [e, h1] at h2'
    have h4 := congrArg List.length (HO.lst.inj (Option.some.inj h2'))
    cases ns with
    | nil => cases h4
    | cons x r =>
      have h5 := HO.lst.inj (Option.some.inj h2')
      cases h5
  have S0 : BagSt H b ns H i1 i2 i3 i4 := ⟨h1, h2', hne, fun _ _ h _ => h, l63, p0, p1, p2, p3, p4, p5⟩
  refine ⟨_, (pss_cons (ps_asg (pe_op q_add (pe_ix q_ix (pv 0) pe_int (fun _ _ => rfl)) pe_int) (pg_sub (pv 0) pe_int set_list)) (pss_cons (ps_if (PW.pt (pw_and (pt_cmpR (q_eq (hu64 hr)) (pe_ix q_ix (pv 0) pe_int (fun _ _ => rfl)) pe_int (nomark _)) (pw_and1 (pt_cmpR q_lt (pe_ix q_ix (pv 0) pe_int (fun _ _ => rfl)) (pe_callB q_len (by rfl) T.b_len (by decide +kernel) (pa_cons (pe_ix q_ix (pv 0) pe_int (fun _ _ => rfl)) pa_nil)) (nomark _))))) (pss_cons (ps_set (i := 2) sc__law_pull.nd rfl (by first | exact Or.inl rfl | exact Or.inr rfl) (pe_ix q_ix (pe_ix q_ix (pv 0) pe_int (fun _ _ => rfl)) (pe_ix q_ix (pv 0) pe_int (fun _ _ => rfl)) (fun _ _ => rfl))) (pss_cons (ps_asg (pe_op q_add (pe_ix q_ix (pv 0) pe_int (fun _ _ => rfl)) pe_int) (pg_sub (pv 0) pe_int set_list)) (pss_one (ps_if (pt_cmpR q_ge (pe_callB q_abs (by rfl) T.b_abs (by decide +kernel) (pa_cons (pv 2) pa_nil)) (pe_op q_pow pe_int pe_int) (nomark _)) (pss_one (ps_asg (pe_callB q_abs (by rfl) T.b_abs (by decide +kernel) (pa_cons (pv 2) pa_nil)) (pg_sub (pv 0) pe_int set_list))) (pss_one (ps_asg (pe_op q_mod (pe_callTy q_int1 (by rfl) T.b_int (by decide +kernel) (pa_cons (pe_op q_add (pe_op q_add (pe_op q_mul (pe_ix q_ix (pv 0) pe_int (fun _ _ => rfl)) pe_int) (pe_op q_mul (pe_op q_mod (pe_callTy q_int1 (by rfl) T.b_int (by decide +kernel) (pa_cons (pv 2) pa_nil)) pe_int) pe_int)) pe_int) pa_nil)) pe_int) (pg_sub (pv 0) pe_int set_list))))))) pss_nil) (pss_cons (ps_if (pt_cmpR q_gt (pe_ix q_ix (pv 0) pe_int (fun _ _ => rfl)) pe_int (nomark _)) (pss_cons (ps_set (i := 3) sc__law_pull.nd rfl (by first | exact Or.inl rfl | exact Or.inr rfl) (pe_op q_mod (pe_callTy q_int1 (by rfl) T.b_int (by decide +kernel) (pa_cons (pe_ix q_ix (pv 0) pe_int (fun _ _ => rfl)) pa_nil)) (pv 1))) (pss_cons (ps_asg (pe_op q_fdiv (pe_ix q_ix (pv 0) pe_int (fun _ _ => rfl)) (pv 1)) (pg_sub (pv 0) pe_int set_list)) (pss_one (ps_ret (pv 3))))) pss_nil) (pss_cons (ps_set (i := 4) sc__law_pull.nd rfl (by first | exact Or.inl rfl | exact Or.inr rfl) (pe_op q_mod (pe_callTy q_int1 (by rfl) T.b_int (by decide +kernel) (pa_cons (pe_op q_add (pe_op q_mul (pe_ix q_ix (pv 0) pe_int (fun _ _ => rfl)) (pe_ix q_ix (pv 0) pe_int (fun _ _ => rfl))) (pe_op q_mul (pe_ix q_ix (pv 0) pe_int (fun _ _ => rfl)) pe_int)) pa_nil)) pe_int)) (pss_cons (ps_asg (pe_op q_mod (pe_callTy q_int1 (by rfl) T.b_int (by decide +kernel) (pa_cons (pe_op q_add (pe_op q_add (pe_op q_mul (pv 4) pe_int) (pe_op q_mul (pe_ix q_ix (pv 0) pe_int (fun _ _ => rfl)) pe_int)) pe_int) pa_nil)) pe_int) (pg_sub (pv 0) pe_int set_list)) (pss_one (ps_ret (pe_op q_mod (pe_callTy q_int1 (by rfl) T.b_int (by decide +kernel) (pa_cons (pe_op q_fdiv (pe_ix q_ix (pv 0) pe_int (fun _ _ => rfl)) pe_int) pa_nil)) (pv 1))))))))), ?_⟩
  -- bag[4] = bag[4] + 1
  refine ts_bag S0 (ei_add (ei_ix rfl S0.at_ rfl) ei_c) rfl rfl rfl p0 p1 p2 p3 p4 (by omega) fun H1 S1 => ?_
  -- the first test: it leaves some bag
  dsimp only
  refine ts_cut (fun σ' H' => ∃ (v : Option V) (j1 j2 j3 j4 : Int), σ' = [some (.ref b.1), some (.int n), v, none, none] ∧ BagSt H b ns H' j1 j2 j3 j4) (fun D' hrt k => ?_) ?_
  · refine ts_if (eb_and (r := decide (i2 = 0) && decide (i1 < (ns.length : Int))) (eb_eq (ei_ix rfl S1.at_ rfl) ei_c) (fun e => ?_) (fun e => by rw [e]; rfl)) (fun e => ?_) (fun _ => ?_)
    · rw [e, Bool.true_and]
      have := eb_lt (ta := tOp (gIx K) (tVar 0) (tC (.int 1))) (ei_ix (K := K) (σ := L2.start ["_law_bag_here", "_law_many", "_law_cell", "_law_digit", "_law_twice"] [.ref b.1, .int n]) (n := 0) (k := 1) (i := i1) rfl S1.at_ rfl) (ei_len (K := K) (σ := L2.start ["_law_bag_here", "_law_many", "_law_cell", "_law_digit", "_law_twice"] [.ref b.1, .int n]) (n := 0) (k := 0) rfl S1.at_ rfl S1.ls)
      rw [List.length_map] at this
      exact this
    · rw [Bool.and_eq_true] at e
      have e1 := of_decide_eq_true e.2
      obtain ⟨z, hz1, hz⟩ : ∃ z, z ∈ ns ∧ atI (ns.map V.int) i1 = some (.int z) := by
        have hk : i1.toNat < ns.length := by omega
        refine ⟨ns[i1.toNat], List.getElem_mem _, ?_⟩
        unfold atI ixN
        rw [if_pos p0, List.length_map, if_pos e1]
        show (ns.map V.int)[i1.toNat]? = _
        rw [List.getElem?_map, List.getElem?_eq_getElem hk]
        rfl
      -- cell = bag[0][bag[1]]
      refine ts_setName (ei_ix2 rfl S1.at_ rfl S1.ls (ei_ix rfl S1.at_ rfl) hz) ?_
      -- bag[1] = bag[1] + 1
      refine ts_bag S1 (ei_add (ei_ix rfl S1.at_ rfl) ei_c) rfl rfl rfl (by omega) (by omega) p2 p3 p4 (by omega) fun H2 S2 => ?_
      refine ts_if (eb_ge (ei_abs (ei_var rfl)) (ei_pow ei_c ei_c ⟨by decide, by decide, by decide⟩)) (fun _ => ?_) (fun _ => ?_)
      · have hz0 : 0 ≤ (if z < 0 then -z else z) := by split <;> omega
        refine ts_bag S2 (ei_abs (ei_var rfl)) rfl rfl rfl (by omega) (by omega) hz0 p3 p4 (by omega) fun H3 S3 => ?_
        exact k _ _ ⟨_, _, _, _, _, rfl, S3⟩
      · refine ts_bag S2 (ei_mod (ei_int (ei_add (ei_add (ei_mul (ei_ix rfl S2.at_ rfl) ei_c (cmulr ⟨by decide, by decide⟩)) (ei_mul (ei_mod (ei_int (ei_var rfl)) ei_c (by decide)) ei_c (cmulr ⟨by decide, by decide⟩))) ei_c)) ei_c (by decide)) rfl rfl rfl (by omega) (by omega) p2 (Int.emod_nonneg _ (by decide)) (Int.lt_trans (Int.emod_lt_of_pos _ (by decide)) (by decide)) (by omega) fun H3 S3 => ?_
        exact k _ _ ⟨_, _, _, _, _, rfl, S3⟩
    · exact k _ _ ⟨_, _, _, _, _, rfl, S1⟩
  rintro σ' H' ⟨v, j1, j2, j3, j4, rfl, S3⟩
  have fin : ∀ (H'' : Hp) (k1 k2 k3 k4 x : Int), BagSt H b ns H'' k1 k2 k3 k4 → 0 ≤ x → x < n → Q (.int x) H'' := fun H'' k1 k2 k3 k4 x S x0 x1 => by
    obtain ⟨z1, z2⟩ := S.fin hb iv hM
    exact q _ _ _ (hd x x0 x1) z1 z2 rfl
  -- what is left of a great number
  refine ts_cut (fun σ'' H'' => σ'' = [some (.ref b.1), some (.int n), v, none, none] ∧ H'' = H') (fun D' hrt k => ?_) ?_
  · refine ts_if (eb_gt (ei_ix rfl S3.at_ rfl) ei_c) (fun _ => ?_) (fun _ => k _ _ ⟨rfl, rfl⟩)
    refine ts_setName (ei_mod (ei_int (ei_ix rfl S3.at_ rfl)) (ei_var rfl) n0) ?_
    refine ts_bag S3 (ei_fdiv (ei_ix rfl S3.at_ rfl) (ei_var rfl) ⟨n0, n1⟩) rfl rfl rfl S3.p0 S3.p1 (Int.ediv_nonneg S3.p2 (by omega)) S3.p3 S3.p4 S3.p5 fun H4 S4 => ?_
    refine ts_ret (ei_var rfl) ?_
    rw [hrt]
    exact fin _ _ _ _ _ _ S4 (Int.emod_nonneg _ (by omega)) (Int.emod_lt_of_pos _ n0)
  rintro σ'' H'' ⟨rfl, rfl⟩
  refine ts_setName (ei_mod (ei_int (ei_add (ei_mul (ei_ix rfl S3.at_ rfl) (ei_ix rfl S3.at_ rfl) (cmulr ⟨by have := S3.p3; omega, by have := S3.p4; omega⟩)) (ei_mul (ei_ix rfl S3.at_ rfl) ei_c (cmulr ⟨by decide, by decide⟩)))) ei_c (by decide)) ?_
  refine ts_bag S3 (ei_mod (ei_int (ei_add (ei_add (ei_mul (ei_var rfl) ei_c (cmulr ⟨by decide, by decide⟩)) (ei_mul (ei_ix rfl S3.at_ rfl) ei_c (cmulr ⟨by decide, by decide⟩))) ei_c)) ei_c (by decide)) rfl rfl rfl S3.p0 S3.p1 S3.p2 (Int.emod_nonneg _ (by decide)) (Int.lt_trans (Int.emod_lt_of_pos _ (by decide)) (by decide)) S3.p5 fun H4 S4 => ?_
  refine ts_ret (ei_mod (ei_int (ei_fdiv (ei_ix rfl S4.at_ rfl) ei_c ⟨by decide, by decide⟩)) (ei_var rfl) n0) ?_
  exact fin _ _ _ _ _ _ S4 (Int.emod_nonneg _ (by omega)) (Int.emod_lt_of_pos _ n0)
theorem sc__law_of : FnScope ["_law_bag_here", "_law_some"] ["_law_bag_here", "_law_some"] (defScope s__law_of) := ⟨rfl, rfl, rfl, by decide +kernel, rfl, by decide +kernel, by decide +kernel⟩
/-- some item of what is handed in -/
def dt__law_of : DF := fun bag ds P _ => ∃ b s xs, bag = some b ∧ ds = [.raw (.ref b.1), s] ∧ s.walked = some xs ∧ xs ≠ [] ∧ xs.length < 1000000 ∧ ∀ d, d ∈ xs → P d
theorem cg__law_of {bag : Option (Addr × Addr)} {ds ds' : List D} {P : D → Prop} {Er : DEr} (h : ds = ds') : dt__law_of bag ds P Er = dt__law_of bag ds' P Er := by rw [h]
theorem ok__law_of (T : Txt K mg) : FnOk P w K mg base CX0 2 T.a__law_of T.fd__law_of ["_law_bag_here", "_law_some"] (spD K 2 dt__law_of) := by
  refine okD T.F__law_of sc__law_of rfl fun cdv A outer s H E c hr => ⟨_, _, (pss_one (ps_ret (pe_ix q_ix (pv 1) (pe_call ((ok__law_pull T).mono (by decide)) hr (by rfl) T.g__law_pull T.F__law_pull.kp T.n__law_pull .nil pass0 (pa_cons (pv 0) (pa_cons (pe_callB q_len (by rfl) T.b_len (by decide +kernel) (pa_cons (pv 1) pa_nil)) pa_nil))) (fun _ _ => rfl)))), (sim_ret (sim_op sr_ix sim_var (sim_call (sim_cons sim_var (sim_cons (sim_cb sc_len (sim_cons sim_var sim_nil)) sim_nil))))), fun ds Pd Er hl hd => ?_⟩
  obtain ⟨b, s, xs, hb, rfl, hw, hne, hsz, hd⟩ := hd
  have hp := pos_len hne
  cases s with
  | str z =>
    cases hw
    have hl : (z.cps.toList.map fun k => D.str ⟨#[k]⟩).length = z.length := by rw [List.length_map, len_list]
    rw [hl] at hsz hp
    have z16 : z.length ≤ sizeLine := Nat.le_trans (Nat.le_of_lt hsz) (by decide)
    walk_at "qd"
    refine ⟨z16, b, _, hb, rfl, by omega, by omega, fun k h0 h1 => ?_⟩
    have h1' : k < (z.cps.toList.length : Int) := by rw [len_list]; exact h1
    obtain ⟨x, hx, e⟩ := atI_mem h0 h1'
    refine ⟨z16, ?_⟩
    show optP (atI z.cps.toList k) _
    rw [e]
    exact hd _ (List.mem_map.mpr ⟨x, hx, rfl⟩)
  | lst ys =>
    cases hw
    walk_at "qd"
    refine ⟨b, _, hb, rfl, by omega, by omega, fun k h0 h1 => ?_⟩
    obtain ⟨x, hx, e⟩ := atI_mem h0 h1
    show optP (atI _ k) _
    rw [e]
    exact hd _ hx
  | tup ys =>
    cases hw
    walk_at "qd"
    refine ⟨b, _, hb, rfl, by omega, by omega, fun k h0 h1 => ?_⟩
    obtain ⟨x, hx, e⟩ := atI_mem h0 h1
    show optP (atI _ k) _
    rw [e]
    exact hd _ hx
  | non => cases hw
  | bl _ => cases hw
  | int _ => cases hw
  | ins _ _ => cases hw
  | raw _ => cases hw
theorem sc__law_letters : FnScope ["_law_bag_here", "_law_most_z", "_law_k"] ["_law_bag_here", "_law_most_z"] (defScope s__law_letters) := ⟨rfl, rfl, rfl, by decide +kernel, rfl, by decide +kernel, by decide +kernel⟩
def dt__law_letters : DF := fun bag ds P _ => ∃ b n, bag = some b ∧ ds = [.raw (.ref b.1), .int n] ∧ 0 < n ∧ n ≤ 1000 ∧ ∀ z : Str, 1 ≤ z.length → (z.length : Int) ≤ n → among z sLETTERS → P (.str z)
theorem cg__law_letters {bag : Option (Addr × Addr)} {ds ds' : List D} {P : D → Prop} {Er : DEr} (h : ds = ds') : dt__law_letters bag ds P Er = dt__law_letters bag ds' P Er := by rw [h]
theorem ok__law_letters (T : Txt K mg) : FnOk P w K mg base CX0 3 T.a__law_letters T.fd__law_letters ["_law_bag_here", "_law_most_z"] (spD K 2 dt__law_letters) := by
  refine okD T.F__law_letters sc__law_letters rfl fun cdv A outer s H E c hr => ⟨_, _, (pss_one (ps_ret (q_join pe_str (pe_lc (own := [("_law_k", 2)]) (by rfl) sc__law_letters.nd (pi_range1 (by rfl) T.b_range (pa_cons (pe_op q_add pe_int (pe_call ((ok__law_pull T).mono (by decide)) hr (by rfl) T.g__law_pull T.F__law_pull.kp T.n__law_pull .nil pass0 (pa_cons (pv 0) (pa_cons (pv 1) pa_nil)))) pa_nil)) (blkOk_by (own := [("_law_k", 2)]) (N := ["_law_bag_here", "_law_most_z", "_law_k"]) (sc := defScope s__law_letters) (by decide +kernel)) (fun _ _ _ _ _ => (pg_name (i := 2) sc__law_letters.nd rfl (by first | exact Or.inl rfl | exact Or.inr rfl))) (fun _ _ _ _ _ => pts_nil) (fun _ _ _ _ _ => (pe_call ((ok__law_of T).mono (by decide)) hr (by rfl) T.g__law_of T.F__law_of.kp T.n__law_of .nil pass0 (pa_cons (pv 0) (pa_cons (pe_call0 ((ok__law_small T).mono (by decide)) hr (by rfl) T.g__law_small T.F__law_small.kp T.n__law_small .nil pass0) pa_nil)))))))), (sim_ret (sim_join sim_str (sim_lc (si_range1 (sim_op sr_add sim_int (sim_call (sim_cons sim_var (sim_cons sim_var sim_nil))))) sgn_name sim_yes (sim_call (sim_cons sim_var (sim_cons (sim_call sim_nil) sim_nil)))))), fun ds Pd Er hl hd => ?_⟩
  obtain ⟨b, n, hb, rfl, n0, n1, hd⟩ := hd
  walk_at "qd"
  refine ⟨b, n, hb, rfl, n0, by omega, fun k h0 h1 => ?_⟩
  refine ⟨by omega, by omega, ?_⟩
  refine lcGo_some (signOf sLETTERS) _ _ (fun x _ Q hQ => ?_) ?_ fun ds hl2 hds => ?_
  · refine ⟨rfl, rfl, b, .str sLETTERS, _, hb, rfl, rfl, walk_signs (by decide +kernel), ?_, fun d hd => hQ d (sign_mem hd)⟩
    rw [List.length_map, lenSMALL]
    decide
  · rw [len_rangeD]
    show 0 + (1 + k).toNat ≤ sizeLine
    have : sizeLine = 16777216 := sizeLine_eq
    omega
  · rw [len_rangeD] at hl2
    obtain ⟨ys, e1, e2, e3⟩ := join_end (P := fun z => Pd (.str z)) hds (by omega) fun z hz hm => hd z (by omega) (by omega) hm
    rw [List.nil_append]
    show optP (asStrs ds) _
    rw [e1]
    exact ⟨e2, e3⟩
theorem sc__law_same : FnScope ["_law_found", "_law_due", "_law_a", "_law_b"] ["_law_found", "_law_due"] (defScope s__law_same) := ⟨rfl, rfl, rfl, by decide +kernel, rfl, by decide +kernel, by decide +kernel⟩
/-- two equal data are the same; n: how deep they may be -/
def dtSame (n : Nat) : DF := fun _ ds P _ => ∃ d, ds = [d, d] ∧ pl d = true ∧ dep d < n ∧ P (.bl true)
theorem all_true (n : Nat) : (List.replicate n true).all id = true := by
  induction n with
  | zero => rfl
  | succ n ih => rw [List.replicate_succ, List.all_cons, ih]; rfl
theorem zipWith_const {α β γ : Type} (c : γ) : ∀ (xs : List α) (ys : List β), xs.length = ys.length → List.zipWith (fun _ _ => c) xs ys = List.replicate xs.length c
  | [], [], _ => rfl
  | x :: xs, y :: ys, h => by
    rw [List.zipWith_cons_cons, List.length_cons, List.replicate_succ, zipWith_const c xs ys (by simpa using h)]
theorem mem_zip_self {α : Type} {a b : α} : ∀ {xs : List α}, (a, b) ∈ xs.zip xs → a = b ∧ a ∈ xs
  | x :: xs, h => by
    rw [List.zip_cons_cons] at h
    rcases List.mem_cons.mp h with e | h
    · cases e
      exact ⟨rfl, List.mem_cons_self⟩
    · obtain ⟨z1, z2⟩ := mem_zip_self h
      exact ⟨z1, List.mem_cons_of_mem _ z2⟩
theorem ok_same_step {n : Nat} (T : Txt K mg) (GREC : FnOk P w K mg base CX0 n T.a__law_same T.fd__law_same ["_law_found", "_law_due"] (spD K 2 (dtSame n))) : FnOk P w K mg base CX0 (n + 1) T.a__law_same T.fd__law_same ["_law_found", "_law_due"] (spD K 2 (dtSame (n + 1))) := by
  refine okD T.F__law_same sc__law_same rfl fun cdv A outer s H E c hr => ⟨_, _, (pss_cons (ps_if (pt_val (pe_callB call_isiT (by rfl) T.b_isinstance PyProof.Rows.boot_isinstance (pa_cons (pv 1) (pa_cons (pe_tup (pa_cons (pe_bltn (v := .ty "list") (by rfl) T.b_list PyProof.Rows.boot_list rfl) (pa_cons (pe_bltn (v := .ty "tuple") (by rfl) T.b_tuple PyProof.Rows.boot_tuple rfl) pa_nil))) pa_nil)))) (pss_cons (ps_if (PW.pt (pw_or (pt_cmpR (q_ne (hu64 hr)) (pe_callB call_isi (by rfl) T.b_isinstance (by decide +kernel) (pa_cons (pv 0) (pa_cons (pe_bltn (v := .ty "list") (by rfl) T.b_list PyProof.Rows.boot_list rfl) pa_nil))) (pe_callB call_isi (by rfl) T.b_isinstance (by decide +kernel) (pa_cons (pv 1) (pa_cons (pe_bltn (v := .ty "list") (by rfl) T.b_list PyProof.Rows.boot_list rfl) pa_nil))) (nomark _)) (pw_or1 (pt_cmpR (q_ne (hu64 hr)) (pe_callB call_isi (by rfl) T.b_isinstance (by decide +kernel) (pa_cons (pv 0) (pa_cons (pe_bltn (v := .ty "tuple") (by rfl) T.b_tuple PyProof.Rows.boot_tuple rfl) pa_nil))) (pe_callB call_isi (by rfl) T.b_isinstance (by decide +kernel) (pa_cons (pv 1) (pa_cons (pe_bltn (v := .ty "tuple") (by rfl) T.b_tuple PyProof.Rows.boot_tuple rfl) pa_nil))) (nomark _))))) (pss_one (ps_ret pe_bl)) pss_nil) (pss_one (ps_ret (pe_and (pe_cmpR (q_eq (hu64 hr)) (pe_callB q_len (by rfl) T.b_len (by decide +kernel) (pa_cons (pv 0) pa_nil)) (pe_callB q_len (by rfl) T.b_len (by decide +kernel) (pa_cons (pv 1) pa_nil)) (nomark _)) (pe_one (pe_callB (cr_all (by rfl)) (by rfl) T.b_all (by decide +kernel) (pa_cons (pe_lc (own := [("_law_a", 2), ("_law_b", 3)]) (by rfl) sc__law_same.nd (RZ.pi_zipA (by rfl) T.b_zip (pa_cons (pv 0) (pa_cons (pv 1) pa_nil))) (blkOk_by (own := [("_law_a", 2), ("_law_b", 3)]) (N := ["_law_found", "_law_due", "_law_a", "_law_b"]) (sc := defScope s__law_same) (by decide +kernel)) (fun _ _ _ _ _ => (pg_tup rfl (pgs_cons (pg_name (i := 2) sc__law_same.nd rfl (by first | exact Or.inl rfl | exact Or.inr rfl)) (pgs_cons (pg_name (i := 3) sc__law_same.nd rfl (by first | exact Or.inl rfl | exact Or.inr rfl)) pgs_nil)))) (fun _ _ _ _ _ => pts_nil) (fun _ _ _ _ _ => (pe_call GREC hr (by rfl) T.g__law_same T.F__law_same.kp T.n__law_same .nil pass0 (pa_cons (pv 2) (pa_cons (pv 3) pa_nil))))) pa_nil))))))) pss_nil) (pss_cons (ps_if (PW.pt (pw_or (pt_cmpR q_is (pv 1) pe_non (nomark _)) (pw_or1 (pt_cmpR q_is (pv 0) pe_non (nomark _))))) (pss_one (ps_ret (pe_and (pe_cmpR q_is (pv 1) pe_non (nomark _)) (pe_one (pe_cmpR q_is (pv 0) pe_non (nomark _)))))) pss_nil) (pss_cons (ps_if (PW.pt (pw_or (pt_cmpR (q_ne (hu64 hr)) (pe_callB call_isi (by rfl) T.b_isinstance (by decide +kernel) (pa_cons (pv 1) (pa_cons (pe_bltn (v := .ty "bool") (by rfl) T.b_bool PyProof.Rows.boot_bool rfl) pa_nil))) (pe_callB call_isi (by rfl) T.b_isinstance (by decide +kernel) (pa_cons (pv 0) (pa_cons (pe_bltn (v := .ty "bool") (by rfl) T.b_bool PyProof.Rows.boot_bool rfl) pa_nil))) (nomark _)) (pw_or1 (pt_cmpR (q_ne (hu64 hr)) (pe_callB call_isi (by rfl) T.b_isinstance (by decide +kernel) (pa_cons (pv 1) (pa_cons (pe_bltn (v := .ty "int") (by rfl) T.b_int PyProof.Rows.boot_int rfl) pa_nil))) (pe_callB call_isi (by rfl) T.b_isinstance (by decide +kernel) (pa_cons (pv 0) (pa_cons (pe_bltn (v := .ty "int") (by rfl) T.b_int PyProof.Rows.boot_int rfl) pa_nil))) (nomark _))))) (pss_one (ps_ret pe_bl)) pss_nil) (pss_one (ps_ret (pe_and (pe_cmpR (q_eq (hu64 hr)) (pe_callB call_isi (by rfl) T.b_isinstance (by decide +kernel) (pa_cons (pv 1) (pa_cons (pe_bltn (v := .ty "str") (by rfl) T.b_str PyProof.Rows.boot_str rfl) pa_nil))) (pe_callB call_isi (by rfl) T.b_isinstance (by decide +kernel) (pa_cons (pv 0) (pa_cons (pe_bltn (v := .ty "str") (by rfl) T.b_str PyProof.Rows.boot_str rfl) pa_nil))) (nomark _)) (pe_one (pe_cmpR (q_eq (hu64 hr)) (pv 0) (pv 1) (nomark _))))))))), (sim_seq (sim_ifS (sim_B (sim_isi2 sim_var)) (sim_seq (sim_ifS (sim_or (sim_test (sim_op sr_ne (sim_cb sc_isi (sim_cons sim_var (sim_cons sim_ty sim_nil))) (sim_cb sc_isi (sim_cons sim_var (sim_cons sim_ty sim_nil))))) (sim_test (sim_op sr_ne (sim_cb sc_isi (sim_cons sim_var (sim_cons sim_ty sim_nil))) (sim_cb sc_isi (sim_cons sim_var (sim_cons sim_ty sim_nil)))))) (sim_ret sim_bl) sim_next) (sim_ret (sim_andV (sim_op sr_eq (sim_cb sc_len (sim_cons sim_var sim_nil)) (sim_cb sc_len (sim_cons sim_var sim_nil))) (sim_cb sc_all (sim_cons (sim_lc (si_zip sim_var sim_var) sgn_pair sim_yes (sim_call (sim_cons sim_var (sim_cons sim_var sim_nil)))) sim_nil))))) sim_next) (sim_seq (sim_ifS (sim_or (sim_test (sim_op sr_is sim_var sim_non)) (sim_test (sim_op sr_is sim_var sim_non))) (sim_ret (sim_andV (sim_op sr_is sim_var sim_non) (sim_op sr_is sim_var sim_non))) sim_next) (sim_seq (sim_ifS (sim_or (sim_test (sim_op sr_ne (sim_cb sc_isi (sim_cons sim_var (sim_cons sim_ty sim_nil))) (sim_cb sc_isi (sim_cons sim_var (sim_cons sim_ty sim_nil))))) (sim_test (sim_op sr_ne (sim_cb sc_isi (sim_cons sim_var (sim_cons sim_ty sim_nil))) (sim_cb sc_isi (sim_cons sim_var (sim_cons sim_ty sim_nil)))))) (sim_ret sim_bl) sim_next) (sim_ret (sim_andV (sim_op sr_eq (sim_cb sc_isi (sim_cons sim_var (sim_cons sim_ty sim_nil))) (sim_cb sc_isi (sim_cons sim_var (sim_cons sim_ty sim_nil)))) (sim_op sr_eq sim_var sim_var)))))), fun ds Pd Er hl hd => ?_⟩
  obtain ⟨d, rfl, hp, hn, hd⟩ := hd
  have turn : ∀ (xs : List D), decide (xs.length ≤ 1000000) = true → pls xs = true → deps xs < n → ∀ ρ : DEnv, ρ.length = 4 → lcGo (dGPair 2 3) (fun _ P => P true) (dCall c.bag 2 (dtSame n) [] (dCons (dVar 2) (dCons (dVar 3) dNil))) [2, 3] ρ [] (zipD xs xs) fun acc => dAll [.lst acc] Pd := fun xs hl hp hn ρ hr => by
    refine lcGo_pair (fun _ _ => .bl true) xs xs [] (fun x y hxy Q q => ?_) ?_ ?_
    · obtain ⟨rfl, hm⟩ := mem_zip_self hxy
      have h1 := pls_mem hp x hm
      have h2 := deps_mem hm
      match ρ, hr with
      | [_, _, _, _], _ => exact ⟨rfl, x, rfl, h1, by omega, q⟩
    · have := of_decide_eq_true hl
      show 0 + xs.length ≤ sizeLine
      have : sizeLine = 16777216 := sizeLine_eq
      omega
    · rw [zipWith_const _ _ _ rfl, List.nil_append]
      have e : (List.replicate xs.length (D.bl true)) = (List.replicate xs.length true).map D.bl := by rw [List.map_replicate]
      rw [e]
      show optP (asBls _) _
      rw [asBls_map]
      show Pd (.bl _)
      rw [all_true]
      exact hd
  cases d with
  | lst xs =>
    walk_at "qd"
    simp only [pl, Bool.and_eq_true] at hp
    simp only [dep] at hn
    exact turn xs hp.1 hp.2 (by omega) _ rfl
  | tup xs =>
    walk_at "qd"
    simp only [pl, Bool.and_eq_true] at hp
    simp only [dep] at hn
    exact turn xs hp.1 hp.2 (by omega) _ rfl
  | ins _ _ => simp [pl] at hp
  | raw _ => simp [pl] at hp
  | non =>
    walk_at "qd"
    exact hd
  | str x =>
    walk_at "qd"
    exact dEq_self hp (Nat.zero_le _) hd
  | bl _ =>
    walk_at "qd"
    exact hd
  | int _ =>
    walk_at "qd"
    exact hd
theorem ok_same_0 (T : Txt K mg) : FnOk P w K mg base CX0 0 T.a__law_same T.fd__law_same ["_law_found", "_law_due"] (spD K 2 (dtSame 0)) := by
  have no : ∀ vs H Q E, ¬ spD K 2 (dtSame 0) vs H Q E := fun vs H Q E h => by
    obtain ⟨_, _, _, _, _, _, _, ⟨d, _, _, hd, _⟩, _⟩ := h
    omega
  exact ⟨fun vs H Q E h => absurd h (no vs H Q E), fun A outer s H args us vs Q E _ _ _ _ h => absurd h (no vs H Q E)⟩
theorem ok_same_n (T : Txt K mg) : ∀ n : Nat, FnOk P w K mg base CX0 n T.a__law_same T.fd__law_same ["_law_found", "_law_due"] (spD K 2 (dtSame n))
  | 0 => ok_same_0 T
  | n + 1 => ok_same_step T (ok_same_n T n)
abbrev dt__law_same : DF := dtSame 20
theorem ok__law_same (T : Txt K mg) : FnOk P w K mg base CX0 21 T.a__law_same T.fd__law_same ["_law_found", "_law_due"] (spD K 2 dt__law_same) := (ok_same_n T 20).mono (by decide)
theorem sc__law_signed : FnScope ["_law_bag_here", "_law_k"] ["_law_bag_here"] (defScope s__law_signed) := ⟨rfl, rfl, rfl, by decide +kernel, rfl, by decide +kernel, by decide +kernel⟩
def dt__law_signed : DF := fun bag ds P _ => ∃ b, bag = some b ∧ ds = [.raw (.ref b.1)] ∧ ∀ z : Str, 1 ≤ z.length → z.length ≤ 3 → among z sSIGNS → P (.str z)
theorem cg__law_signed {bag : Option (Addr × Addr)} {ds ds' : List D} {P : D → Prop} {Er : DEr} (h : ds = ds') : dt__law_signed bag ds P Er = dt__law_signed bag ds' P Er := by rw [h]
theorem ok__law_signed (T : Txt K mg) : FnOk P w K mg base CX0 3 T.a__law_signed T.fd__law_signed ["_law_bag_here"] (spD K 1 dt__law_signed) := by
  refine okD T.F__law_signed sc__law_signed rfl fun cdv A outer s H E c hr => ⟨_, _, (pss_one (ps_ret (q_join pe_str (pe_lc (own := [("_law_k", 1)]) (by rfl) sc__law_signed.nd (pi_range1 (by rfl) T.b_range (pa_cons (pe_op q_add pe_int (pe_call ((ok__law_pull T).mono (by decide)) hr (by rfl) T.g__law_pull T.F__law_pull.kp T.n__law_pull .nil pass0 (pa_cons (pv 0) (pa_cons pe_int pa_nil)))) pa_nil)) (blkOk_by (own := [("_law_k", 1)]) (N := ["_law_bag_here", "_law_k"]) (sc := defScope s__law_signed) (by decide +kernel)) (fun _ _ _ _ _ => (pg_name (i := 1) sc__law_signed.nd rfl (by first | exact Or.inl rfl | exact Or.inr rfl))) (fun _ _ _ _ _ => pts_nil) (fun _ _ _ _ _ => (pe_call ((ok__law_of T).mono (by decide)) hr (by rfl) T.g__law_of T.F__law_of.kp T.n__law_of .nil pass0 (pa_cons (pv 0) (pa_cons (pe_call0 ((ok__law_signs T).mono (by decide)) hr (by rfl) T.g__law_signs T.F__law_signs.kp T.n__law_signs .nil pass0) pa_nil)))))))), (sim_ret (sim_join sim_str (sim_lc (si_range1 (sim_op sr_add sim_int (sim_call (sim_cons sim_var (sim_cons sim_int sim_nil))))) sgn_name sim_yes (sim_call (sim_cons sim_var (sim_cons (sim_call sim_nil) sim_nil)))))), fun ds Pd Er hl hd => ?_⟩
  obtain ⟨b, hb, rfl, hd⟩ := hd
  walk_at "qd"
  refine ⟨b, 3, hb, rfl, by omega, by omega, fun k h0 h1 => ?_⟩
  refine ⟨by omega, by omega, ?_⟩
  refine lcGo_some (signOf sSIGNS) _ _ (fun x _ Q hQ => ?_) ?_ fun ds hl2 hds => ?_
  · refine ⟨rfl, rfl, b, .str sSIGNS, _, hb, rfl, rfl, walk_signs (by decide +kernel), ?_, fun d hd => hQ d (sign_mem hd)⟩
    rw [List.length_map, lenSIGNS]
    decide
  · rw [len_rangeD]
    show 0 + (1 + k).toNat ≤ sizeLine
    have : sizeLine = 16777216 := sizeLine_eq
    omega
  · rw [len_rangeD] at hl2
    obtain ⟨ys, e1, e2, e3⟩ := join_end (P := fun z => Pd (.str z)) hds (by omega) fun z hz hm => hd z (by omega) (by omega) hm
    rw [List.nil_append]
    show optP (asStrs ds) _
    rw [e1]
    exact ⟨e2, e3⟩
theorem sc__is_made_of : FnScope ["value", "characters", "most", "character"] ["value", "characters", "most"] (defScope s__is_made_of) := ⟨rfl, rfl, rfl, by decide +kernel, rfl, by decide +kernel, by decide +kernel⟩
def dt__is_made_of : DF := fun _ ds P _ => ∃ d cs m, ds = [d, .str cs, .int m] ∧ okArg d ∧ P (.bl (madeD d cs m))
theorem cg__is_made_of {bag : Option (Addr × Addr)} {ds ds' : List D} {P : D → Prop} {Er : DEr} (h : ds = ds') : dt__is_made_of bag ds P Er = dt__is_made_of bag ds' P Er := by rw [h]
theorem ok__is_made_of (T : Txt K mg) : FnOk P w K mg base CX0 1 T.a__is_made_of T.fd__is_made_of ["value", "characters", "most"] (spD K 3 dt__is_made_of) := by
  refine okD T.F__is_made_of sc__is_made_of rfl fun cdv A outer s H E c hr => ⟨_, _, (pss_cons (ps_if (PW.pt (pw_or (pt_not (pt_val (pe_callB call_isi (by rfl) T.b_isinstance (by decide +kernel) (pa_cons (pv 0) (pa_cons (pe_bltn (v := .ty "str") (by rfl) T.b_str PyProof.Rows.boot_str rfl) pa_nil))))) (pw_or (pt_cmpR q_lt (pe_callB q_len (by rfl) T.b_len (by decide +kernel) (pa_cons (pv 0) pa_nil)) pe_int (nomark _)) (pw_or1 (pt_cmpR q_gt (pe_callB q_len (by rfl) T.b_len (by decide +kernel) (pa_cons (pv 0) pa_nil)) (pv 2) (nomark _)))))) (pss_one (ps_ret pe_bl)) pss_nil) (pss_one (ps_ret (pe_callB (cr_all (by rfl)) (by rfl) T.b_all (by decide +kernel) (pa_cons (pe_lc (own := [("character", 3)]) (by rfl) sc__is_made_of.nd (pi_any (pv 0)) (blkOk_by (own := [("character", 3)]) (N := ["value", "characters", "most", "character"]) (sc := defScope s__is_made_of) (by decide +kernel)) (fun _ _ _ _ _ => (pg_name (i := 3) sc__is_made_of.nd rfl (by first | exact Or.inl rfl | exact Or.inr rfl))) (fun _ _ _ _ _ => pts_nil) (fun _ _ _ _ _ => (pe_cmpR q_in (pv 3) (pv 1) rfl))) pa_nil))))), (sim_seq (sim_ifS (sim_or (sim_not (sim_B (sim_cb sc_isi (sim_cons sim_var (sim_cons sim_ty sim_nil))))) (sim_or (sim_test (sim_op sr_lt (sim_cb sc_len (sim_cons sim_var sim_nil)) sim_int)) (sim_test (sim_op sr_gt (sim_cb sc_len (sim_cons sim_var sim_nil)) sim_var)))) (sim_ret sim_bl) sim_next) (sim_ret (sim_cb sc_all (sim_cons (sim_lc (si_any sim_var) sgn_name sim_yes (sim_op sr_in sim_var sim_var)) sim_nil)))), fun ds Pd Er hl hd => ?_⟩
  obtain ⟨d, cs, m, rfl, ok, hd⟩ := hd
  cases d with
  | str x =>
    walk_at "qd"
    refine ⟨ok, ite2 (fun h1 => ?_) (fun h1 => ?_)⟩
    · walk_at "qd"
      rw [made_false fun z => by have := of_decide_eq_true h1; omega] at hd
      exact hd
    walk_at "qd"
    refine ⟨ok, ite2 (fun h2 => ?_) (fun h2 => ?_)⟩
    · walk_at "qd"
      rw [made_false fun z => by have := of_decide_eq_true h2; omega] at hd
      exact hd
    walk_at "qd"
    have h1' : ¬ (x.length : Int) < 1 := fun z => h1 (decide_eq_true z)
    have h2' : ¬ (x.length : Int) > m := fun z => h2 (decide_eq_true z)
    rw [made_true ⟨by omega, by omega⟩] at hd
    exact lc_signs ok (fun k Q q => q) hd
  | ins _ _ => exact ok.elim
  | raw _ => exact ok.elim
  | _ =>
    walk_at "qd"
    exact hd
theorem sc_is_letter_word : FnScope ["value"] ["value"] (defScope s_is_letter_word) := ⟨rfl, rfl, rfl, by decide +kernel, rfl, by decide +kernel, by decide +kernel⟩
def dt_is_letter_word : DF := fun _ ds P _ => ∃ d, ds = [d] ∧ okArg d ∧ P (.bl (madeD d sLETTERS 8))
theorem cg_is_letter_word {bag : Option (Addr × Addr)} {ds ds' : List D} {P : D → Prop} {Er : DEr} (h : ds = ds') : dt_is_letter_word bag ds P Er = dt_is_letter_word bag ds' P Er := by rw [h]
theorem ok_is_letter_word (T : Txt K mg) : FnOk P w K mg base CX0 2 T.a_is_letter_word T.fd_is_letter_word ["value"] (spD K 1 dt_is_letter_word) := by
  refine okD T.F_is_letter_word sc_is_letter_word rfl fun cdv A outer s H E c hr => ⟨_, _, (pss_one (ps_ret (pe_call ((ok__is_made_of T).mono (by decide)) hr (by rfl) T.g__is_made_of T.F__is_made_of.kp T.n__is_made_of .nil pass0 (pa_cons (pv 0) (pa_cons (pe_glob (v := .str "abcdefghijklmnopqrstuvwxyz") (by rfl) T.g_LETTERS ⟨_, rfl⟩) (pa_cons (pe_glob (v := .int 8) (by rfl) T.g_MOST_LETTERS ⟨_, rfl⟩) pa_nil)))))), (sim_ret (sim_call (sim_cons sim_var (sim_cons sim_str (sim_cons sim_int sim_nil))))), fun ds Pd Er hl hd => ?_⟩
  obtain ⟨d, rfl, ok, hd⟩ := hd
  walk_at "qd"
  exact ⟨d, _, _, rfl, ok, hd⟩
theorem sc__is_sign_word : FnScope ["value"] ["value"] (defScope s__is_sign_word) := ⟨rfl, rfl, rfl, by decide +kernel, rfl, by decide +kernel, by decide +kernel⟩
def dt__is_sign_word : DF := fun _ ds P _ => ∃ d, ds = [d] ∧ okArg d ∧ P (.bl (madeD d sSIGNS 3))
theorem cg__is_sign_word {bag : Option (Addr × Addr)} {ds ds' : List D} {P : D → Prop} {Er : DEr} (h : ds = ds') : dt__is_sign_word bag ds P Er = dt__is_sign_word bag ds' P Er := by rw [h]
theorem ok__is_sign_word (T : Txt K mg) : FnOk P w K mg base CX0 2 T.a__is_sign_word T.fd__is_sign_word ["value"] (spD K 1 dt__is_sign_word) := by
  refine okD T.F__is_sign_word sc__is_sign_word rfl fun cdv A outer s H E c hr => ⟨_, _, (pss_one (ps_ret (pe_call ((ok__is_made_of T).mono (by decide)) hr (by rfl) T.g__is_made_of T.F__is_made_of.kp T.n__is_made_of .nil pass0 (pa_cons (pv 0) (pa_cons (pe_glob (v := .str "!#&*+,-./:;<=>?\x40[]^{|}") (by rfl) T.g_SIGNS ⟨_, rfl⟩) (pa_cons (pe_glob (v := .int 3) (by rfl) T.g_MOST_SIGNS ⟨_, rfl⟩) pa_nil)))))), (sim_ret (sim_call (sim_cons sim_var (sim_cons sim_str (sim_cons sim_int sim_nil))))), fun ds Pd Er hl hd => ?_⟩
  obtain ⟨d, rfl, ok, hd⟩ := hd
  walk_at "qd"
  exact ⟨d, _, _, rfl, ok, hd⟩
theorem sc_is_word : FnScope ["value"] ["value"] (defScope s_is_word) := ⟨rfl, rfl, rfl, by decide +kernel, rfl, by decide +kernel, by decide +kernel⟩
def dt_is_word : DF := fun _ ds P _ => ∃ d, ds = [d] ∧ okArg d ∧ P (.bl (isWordL d))
theorem cg_is_word {bag : Option (Addr × Addr)} {ds ds' : List D} {P : D → Prop} {Er : DEr} (h : ds = ds') : dt_is_word bag ds P Er = dt_is_word bag ds' P Er := by rw [h]
theorem ok_is_word (T : Txt K mg) : FnOk P w K mg base CX0 3 T.a_is_word T.fd_is_word ["value"] (spD K 1 dt_is_word) := by
  refine okD T.F_is_word sc_is_word rfl fun cdv A outer s H E c hr => ⟨_, _, (pss_one (ps_ret (pe_or (pe_call ((ok__is_sign_word T).mono (by decide)) hr (by rfl) T.g__is_sign_word T.F__is_sign_word.kp T.n__is_sign_word .nil pass0 (pa_cons (pv 0) pa_nil)) (pe_one (pe_call ((ok_is_letter_word T).mono (by decide)) hr (by rfl) T.g_is_letter_word T.F_is_letter_word.kp T.n_is_letter_word .nil pass0 (pa_cons (pv 0) pa_nil)))))), (sim_ret (sim_orV (sim_call (sim_cons sim_var sim_nil)) (sim_call (sim_cons sim_var sim_nil)))), fun ds Pd Er hl hd => ?_⟩
  obtain ⟨d, rfl, ok, hd⟩ := hd
  walk_at "qd"
  refine ⟨d, rfl, ok, ?_⟩
  unfold isWordL at hd
  cases h1 : madeD d sSIGNS 3 with
  | true => rw [h1] at hd; exact hd
  | false =>
    rw [h1] at hd
    walk_at "qd"
    exact ⟨d, rfl, ok, hd⟩
theorem sc_law : FnScope ["_law_script", "_law_bag_here", "_law_things", "_law_turn", "_law_row", "_law_at", "_law_thing"] ["_law_script"] (defScope s_law) := ⟨rfl, rfl, rfl, by decide +kernel, rfl, by decide +kernel, by decide +kernel⟩
theorem ok_law (T : Txt K mg) : FnOk P w K mg base CX0 22 T.a_law T.fd_law ["_law_script"] (spLaw K) := by
  refine T.F_law.ok sc_law (fun vs H Q E h => ?_) (fun cdv A outer s H vs Q E hr h => ?_)
  · obtain ⟨a, ns, rfl, _⟩ := h
    rfl
  obtain ⟨a, ns, rfl, hS, hl, q⟩ := h
  refine ⟨_, pss_cons (ps_set (i := 1) sc_law.nd rfl (by first | exact Or.inl rfl | exact Or.inr rfl) (pe_call ((ok__law_bag T).mono (by decide)) hr (by rfl) T.g__law_bag T.F__law_bag.kp T.n__law_bag .nil pass0 (pa_cons (pv 0) pa_nil))) (pss_cons (ps_set (i := 2) sc_law.nd rfl (by first | exact Or.inl rfl | exact Or.inr rfl) (pe_lst (pa_cons pe_str (pa_cons pe_str (pa_cons pe_str (pa_cons pe_str (pa_cons (pe_op q_mul pe_str pe_int) (pa_cons (pe_op q_mul pe_str pe_int) (pa_cons (pe_op q_mul pe_str pe_int) (pa_cons (pe_op q_mul pe_str pe_int) (pa_cons pe_str (pa_cons pe_str (pa_cons pe_str (pa_cons pe_str (pa_cons pe_str (pa_cons pe_str (pa_cons pe_str (pa_cons pe_str (pa_cons pe_str (pa_cons pe_non (pa_cons pe_int (pa_cons pe_bl (pa_cons (pe_lst (pa_cons pe_str pa_nil)) (pa_cons (pe_tup (pa_cons pe_str pa_nil)) pa_nil)))))))))))))))))))))))) (pss_cons (ps_for PassesOwn.never (by rfl) (pi_range1 (by rfl) T.b_range (pa_cons pe_int pa_nil)) (pg_name (i := 3) sc_law.nd rfl (by first | exact Or.inl rfl | exact Or.inr rfl)) (pss_cons (ps_set (i := 4) sc_law.nd rfl (by first | exact Or.inl rfl | exact Or.inr rfl) (pe_ifExp (pt_cmpR (q_eq (hu64 hr)) (pe_call ((ok__law_pull T).mono (by decide)) hr (by rfl) T.g__law_pull T.F__law_pull.kp T.n__law_pull .nil pass0 (pa_cons (pv 1) (pa_cons pe_int pa_nil))) pe_int (nomark _)) (pe_call ((ok__law_letters T).mono (by decide)) hr (by rfl) T.g__law_letters T.F__law_letters.kp T.n__law_letters .nil pass0 (pa_cons (pv 1) (pa_cons pe_int pa_nil))) (pe_op q_add (pe_call ((ok__law_signed T).mono (by decide)) hr (by rfl) T.g__law_signed T.F__law_signed.kp T.n__law_signed .nil pass0 (pa_cons (pv 1) pa_nil)) (pe_call ((ok__law_of T).mono (by decide)) hr (by rfl) T.g__law_of T.F__law_of.kp T.n__law_of .nil pass0 (pa_cons (pv 1) (pa_cons (pe_lst (pa_cons pe_str (pa_cons pe_str (pa_cons pe_str (pa_cons pe_str (pa_cons pe_str pa_nil)))))) pa_nil)))))) (pss_cons (ps_set (i := 5) sc_law.nd rfl (by first | exact Or.inl rfl | exact Or.inr rfl) (pe_call ((ok__law_pull T).mono (by decide)) hr (by rfl) T.g__law_pull T.F__law_pull.kp T.n__law_pull .nil pass0 (pa_cons (pv 1) (pa_cons (pe_op q_add (pe_callB q_len (by rfl) T.b_len (by decide +kernel) (pa_cons (pv 4) pa_nil)) pe_int) pa_nil)))) (pss_one (ps_expr (pe_bm PySem.F.plainAttrs_list PySem.F.slot_list_append PySem.F.type_list_append mt_append (pv 2) (pa_cons (pe_op q_add (pe_op q_add (pe_slice q_sl (pv 4) po_none (po_some (pv 5))) (pe_call ((ok__law_of T).mono (by decide)) hr (by rfl) T.g__law_of T.F__law_of.kp T.n__law_of .nil pass0 (pa_cons (pv 1) (pa_cons (pe_lst (pa_cons pe_str (pa_cons pe_str (pa_cons pe_str (pa_cons pe_str (pa_cons pe_str (pa_cons pe_str (pa_cons pe_str (pa_cons pe_str (pa_cons pe_str pa_nil)))))))))) pa_nil)))) (pe_slice q_sl (pv 4) (po_some (pv 5)) po_none)) pa_nil))))))) (pss_cons (ps_for PassesOwn.never (by rfl) (pi_any (pv 2)) (pg_name (i := 6) sc_law.nd rfl (by first | exact Or.inl rfl | exact Or.inr rfl)) (pss_cons (ps_if (pt_not (pt_val (pe_call ((ok__law_same T).mono (by decide)) hr (by rfl) T.g__law_same T.F__law_same.kp T.n__law_same .nil pass0 (pa_cons (pe_lst (pa_cons (pe_call ((ok_is_word T).mono (by decide)) hr (by rfl) T.g_is_word T.F_is_word.kp T.n_is_word .nil pass0 (pa_cons (pv 6) pa_nil)) (pa_cons (pe_call ((ok_is_letter_word T).mono (by decide)) hr (by rfl) T.g_is_letter_word T.F_is_letter_word.kp T.n_is_letter_word .nil pass0 (pa_cons (pv 6) pa_nil)) pa_nil))) (pa_cons (pe_lst (pa_cons (pe_call ((ok__law_is_sign T).mono (by decide)) hr (by rfl) T.g__law_is_sign T.F__law_is_sign.kp T.n__law_is_sign .nil pass0 (pa_cons (pv 6) pa_nil)) (pa_cons (pe_call ((ok__law_is_letters T).mono (by decide)) hr (by rfl) T.g__law_is_letters T.F__law_is_letters.kp T.n__law_is_letters .nil pass0 (pa_cons (pv 6) pa_nil)) pa_nil))) pa_nil))))) (pss_one (ps_ret pe_bl)) pss_nil) (pss_one (ps_if (pt_not (pt_val (pe_call ((ok__law_same T).mono (by decide)) hr (by rfl) T.g__law_same T.F__law_same.kp T.n__law_same .nil pass0 (pa_cons (pe_lst (pa_cons (pe_callN0 ((ok_is_word T).mono (by decide)) hr (by rfl) T.g_is_word T.F_is_word.kp (kb_all (ps := ["value"]) (ks := ["value"]) T.F_is_word fun _ _ _ _ _ _ us hl => match us, hl with | [_], _ => rfl) pass0 (pk_cons (pv 6) pk_nil)) (pa_cons (pe_callN0 ((ok_is_letter_word T).mono (by decide)) hr (by rfl) T.g_is_letter_word T.F_is_letter_word.kp (kb_all (ps := ["value"]) (ks := ["value"]) T.F_is_letter_word fun _ _ _ _ _ _ us hl => match us, hl with | [_], _ => rfl) pass0 (pk_cons (pv 6) pk_nil)) pa_nil))) (pa_cons (pe_lst (pa_cons (pe_call ((ok__law_is_sign T).mono (by decide)) hr (by rfl) T.g__law_is_sign T.F__law_is_sign.kp T.n__law_is_sign .nil pass0 (pa_cons (pv 6) pa_nil)) (pa_cons (pe_call ((ok__law_is_letters T).mono (by decide)) hr (by rfl) T.g__law_is_letters T.F__law_is_letters.kp T.n__law_is_letters .nil pass0 (pa_cons (pv 6) pa_nil)) pa_nil))) pa_nil))))) (pss_one (ps_ret pe_bl)) pss_nil)))) (pss_one (ps_ret (pe_cmpR (q_eq (hu64 hr)) (pe_glob (v := .str "!#&*+,-./:;<=>?\x40[]^{|}") (by rfl) T.g_SIGNS ⟨_, rfl⟩) (pe_call0 ((ok__law_signs T).mono (by decide)) hr (by rfl) T.g__law_signs T.F__law_signs.kp T.n__law_signs .nil pass0) (nomark _))))))), ?_⟩
  refine ⟨_, rfl, a, ns, rfl, hS, hl, fun b H1 hb hB => ?_⟩
  dsimp only
  refine law_rest (c := Fm.law b) (q := q) (sim_seq (sim_asgO (sn_lst (sim_cons sim_str (sim_cons sim_str (sim_cons sim_str (sim_cons sim_str (sim_cons (sim_op sr_mul sim_str sim_int) (sim_cons (sim_op sr_mul sim_str sim_int) (sim_cons (sim_op sr_mul sim_str sim_int) (sim_cons (sim_op sr_mul sim_str sim_int) (sim_cons sim_str (sim_cons sim_str (sim_cons sim_str (sim_cons sim_str (sim_cons sim_str (sim_cons sim_str (sim_cons sim_str (sim_cons sim_str (sim_cons sim_str (sim_cons sim_non (sim_cons sim_int (sim_cons sim_bl (sim_cons (sim_lst (sim_cons sim_str sim_nil)) (sim_cons (sim_tup (sim_cons sim_str sim_nil)) sim_nil)))))))))))))))))))))))) (sim_seq (sim_for (si_range1 sim_int) sgn_name.g (sim_seq (sim_asg (sim_ifE (sim_test (sim_op sr_eq (sim_call (sim_cons sim_var (sim_cons sim_int sim_nil))) sim_int)) (sim_call (sim_cons sim_var (sim_cons sim_int sim_nil))) (sim_op sr_add (sim_call (sim_cons sim_var sim_nil)) (sim_call (sim_cons sim_var (sim_cons (sim_lst (sim_cons sim_str (sim_cons sim_str (sim_cons sim_str (sim_cons sim_str (sim_cons sim_str sim_nil)))))) sim_nil))))) sgn_name.g) (sim_seq (sim_asg (sim_call (sim_cons sim_var (sim_cons (sim_op sr_add (sim_cb sc_len (sim_cons sim_var sim_nil)) sim_int) sim_nil))) sgn_name.g) (sim_append (sx_E (sim_op sr_add (sim_op sr_add (sim_sl sim_var sim_noPart (sim_part sim_var)) (sim_call (sim_cons sim_var (sim_cons (sim_lst (sim_cons sim_str (sim_cons sim_str (sim_cons sim_str (sim_cons sim_str (sim_cons sim_str (sim_cons sim_str (sim_cons sim_str (sim_cons sim_str (sim_cons sim_str sim_nil)))))))))) sim_nil)))) (sim_sl sim_var (sim_part sim_var) sim_noPart))))))) (sim_seq (sim_freeze 2 (sim_for (si_any sim_var) sgn_name.g (sim_seq (sim_ifS (sim_not (sim_B (sim_call (sim_cons (sim_lst (sim_cons (sim_call (sim_cons sim_var sim_nil)) (sim_cons (sim_call (sim_cons sim_var sim_nil)) sim_nil))) (sim_cons (sim_lst (sim_cons (sim_call (sim_cons sim_var sim_nil)) (sim_cons (sim_call (sim_cons sim_var sim_nil)) sim_nil))) sim_nil))))) (sim_ret sim_bl) sim_next) (sim_ifS (sim_not (sim_B (sim_call (sim_cons (sim_lst (sim_cons (sim_callK (sim_cons sim_var sim_nil)) (sim_cons (sim_callK (sim_cons sim_var sim_nil)) sim_nil))) (sim_cons (sim_lst (sim_cons (sim_call (sim_cons sim_var sim_nil)) (sim_cons (sim_call (sim_cons sim_var sim_nil)) sim_nil))) sim_nil))))) (sim_ret sim_bl) sim_next)))) (sim_ret (sim_op sr_eq sim_str (sim_call sim_nil)))))) rfl hb hB rfl ?_
  walk_at "qd"
  refine ⟨mulOk (by decide +kernel), mulOk (by decide +kernel), mulOk (by decide +kernel), mulOk (by decide +kernel), by decide, by decide, by decide, by decide, by decide, ?_⟩
  refine dFor_inv (fun i ρ => ∃ things x3 x4 x5 x6, ρ = [none, some (Ent.val (.raw (.ref b.1))), some (Ent.own things), x3, x4, x5, x6] ∧ things.length ≤ 22 + i ∧ ∀ d, d ∈ things → okB d = true) ⟨_, _, _, _, _, rfl, Nat.le_refl _, List.all_eq_true.mp (by decide +kernel)⟩ (fun i x ρ hx hI N hN => ?_) (fun ρ hI => ?_)
  · obtain ⟨things, x3, x4, x5, x6, rfl, hlen, hok⟩ := hI
    have hi : i < 12 := by
      have := (List.getElem?_eq_some_iff.mp hx).1
      rwa [len_rangeD] at this
    walk_at "q0"
    refine seq_asg_cut (shortStr 20) (fun P hP => ?_) fun d hd => ?_
    · walk_at "qd"
      refine ⟨b, 2, rfl, rfl, by decide, by decide, fun k h0 h1 => ?_⟩
      walk_at "qd"
      refine ite2 (fun _ => ?_) (fun _ => ?_)
      · walk_at "qd"
        exact ⟨b, 9, rfl, rfl, by decide, by decide, fun z z1 z2 z3 => hP _ ⟨z, rfl, strOk_among z3 okSMALL, by omega⟩⟩
      · walk_at "qd"
        refine ⟨b, rfl, rfl, fun z z1 z2 z3 => ?_⟩
        walk_at "qd"
        refine ⟨by decide, b, _, _, rfl, rfl, rfl, by simp, by decide, fun d hd => ?_⟩
        obtain ⟨s, rfl, hs, hl⟩ := short_mem (n := 2) hd (by decide +kernel)
        walk_at "qd"
        exact ⟨sl16 (by omega), hP _ ⟨_, rfl, strOk_app (strOk_among z3 okSIGNS) hs, by rw [Str.length_append]; omega⟩⟩
    · obtain ⟨z, rfl, hz, hl⟩ := hd
      walk_at "qd"
      refine ⟨sl16 (by omega), b, _, rfl, rfl, by omega, by omega, fun k h0 h1 => ?_⟩
      walk_at "qd"
      refine ⟨sl16 (by omega), by decide, b, _, _, rfl, rfl, rfl, by simp, by decide, fun d hd => ?_⟩
      obtain ⟨s, rfl, hs, hsl⟩ := short_mem (n := 2) hd (by decide +kernel)
      have c1 := cutS_length z none (some k)
      have c2 := cutS_length z (some k) none
      walk_at "qd"
      refine ⟨sl16 (by omega), sl16 (by omega), sl16 (by rw [Str.length_append]; omega), sl16' (by omega), hN _ ⟨_, _, _, _, _, rfl, by rw [List.length_append, List.length_singleton]; omega, fun d hd => ?_⟩⟩
      rcases List.mem_append.mp hd with hd | hd
      · exact hok d hd
      · rw [List.mem_singleton.mp hd]
        exact okB_str (strOk_app (strOk_app (strOk_cut hz _ _) hs) (strOk_cut hz _ _)) (by rw [Str.length_append, Str.length_append]; omega)
  · obtain ⟨things, x3, x4, x5, x6, rfl, hlen, hok⟩ := hI
    walk_at "qd"
    refine dFor_inv (fun _ ρ => ∃ y3 y4 y5 y6, ρ = [none, some (Ent.val (.raw (.ref b.1))), some (Ent.val (.lst things)), y3, y4, y5, y6]) ⟨_, _, _, _, rfl⟩ (fun i x ρ hx hI N hN => ?_) (fun ρ hI => ?_)
    · obtain ⟨y3, y4, y5, y6, rfl⟩ := hI
      have hx1 := hok x (List.mem_of_getElem? hx)
      have ha := okB_arg hx1
      walk_at "qd"
      refine ⟨x, rfl, ha, ?_⟩
      walk_at "qd"
      refine ⟨x, rfl, ha, ?_⟩
      walk_at "qd"
      refine ⟨by decide, x, rfl, ha, ?_⟩
      walk_at "qd"
      refine ⟨x, rfl, ha, ?_⟩
      walk_at "qd"
      refine ⟨by decide, _, rfl, rfl, by simp [dep, deps], ?_⟩
      walk_at "qd"
      refine ⟨x, rfl, ha, ?_⟩
      walk_at "qd"
      refine ⟨x, rfl, ha, ?_⟩
      walk_at "qd"
      refine ⟨by decide, x, rfl, ha, ?_⟩
      walk_at "qd"
      refine ⟨x, rfl, ha, ?_⟩
      walk_at "qd"
      refine ⟨by decide, _, rfl, rfl, by simp [dep, deps], ?_⟩
      walk_at "qd"
      exact hN _ ⟨_, _, _, _, rfl⟩
    · obtain ⟨y3, y4, y5, y6, rfl⟩ := hI
      walk_at "qd"
      refine dEq_self (d := .str sSIGNS) (by decide +kernel) (Nat.zero_le _) ?_
      rfl
end
theorem all_mk {l : PySem.W.OpenLaw} {w : World} {K : PySem.W.Frag} {h : Heap} {mg : Str → Option Value} {fa : Addr} (X : K.In h) (G : h.Ns mainGlobals mg) (hfa : mg "law" = some (.ref fa))
  {od1 an1 : Option Addr} {sl1 : Array (Option Value)} {oc1 kV1 dc1 pm1 cd1 ct1 : Value} {f1 : Addr}
  {od2 an2 : Option Addr} {sl2 : Array (Option Value)} {oc2 kV2 dc2 pm2 cd2 ct2 : Value} {f2 : Addr}
  {od3 an3 : Option Addr} {sl3 : Array (Option Value)} {oc3 kV3 dc3 pm3 cd3 ct3 : Value} {f3 : Addr}
  {od4 an4 : Option Addr} {sl4 : Array (Option Value)} {oc4 kV4 dc4 pm4 cd4 ct4 : Value} {f4 : Addr}
  {od5 an5 : Option Addr} {sl5 : Array (Option Value)} {oc5 kV5 dc5 pm5 cd5 ct5 : Value} {f5 : Addr}
  {od6 an6 : Option Addr} {sl6 : Array (Option Value)} {oc6 kV6 dc6 pm6 cd6 ct6 : Value} {f6 : Addr}
  {od7 an7 : Option Addr} {sl7 : Array (Option Value)} {oc7 kV7 dc7 pm7 cd7 ct7 : Value} {f7 : Addr}
  {od8 an8 : Option Addr} {sl8 : Array (Option Value)} {oc8 kV8 dc8 pm8 cd8 ct8 : Value} {f8 : Addr}
  {od9 an9 : Option Addr} {sl9 : Array (Option Value)} {oc9 kV9 dc9 pm9 cd9 ct9 : Value} {f9 : Addr}
  {od10 an10 : Option Addr} {sl10 : Array (Option Value)} {oc10 kV10 dc10 pm10 cd10 ct10 : Value} {f10 : Addr}
  {od11 an11 : Option Addr} {sl11 : Array (Option Value)} {oc11 kV11 dc11 pm11 cd11 ct11 : Value} {f11 : Addr}
  {od12 an12 : Option Addr} {sl12 : Array (Option Value)} {oc12 kV12 dc12 pm12 cd12 ct12 : Value} {f12 : Addr}
  {od13 an13 : Option Addr} {sl13 : Array (Option Value)} {oc13 kV13 dc13 pm13 cd13 ct13 : Value} {f13 : Addr}
  {od14 an14 : Option Addr} {sl14 : Array (Option Value)} {oc14 kV14 dc14 pm14 cd14 ct14 : Value} {f14 : Addr}
  {od15 an15 : Option Addr} {sl15 : Array (Option Value)} {oc15 kV15 dc15 pm15 cd15 ct15 : Value} {f15 : Addr}
  {t_LETTERS : Tok}
  {t_MOST_LETTERS : Tok}
  {t_MOST_SIGNS : Tok}
  {t_SIGNS : Tok}
  (a1 : PySem.W.nsIn K mainGlobals "_law_bag" = some (some (.ref f1))) (l1 : K.lookup f1 = some ⟨oc1, od1, .func (PySem.W.fnOf "_law_bag" "_law_bag" (defArgs s__law_bag) (defBody s__law_bag) (defScope s__law_bag) .none kV1 dc1 pm1 an1 cd1 ct1), sl1⟩) (c1 : PySem.W.codeIn K cd1 "_law_bag" = true) (k1 : PySem.W.keepIn K (.ref f1) = true)
  (a2 : PySem.W.nsIn K mainGlobals "_law_small" = some (some (.ref f2))) (l2 : K.lookup f2 = some ⟨oc2, od2, .func (PySem.W.fnOf "_law_small" "_law_small" (defArgs s__law_small) (defBody s__law_small) (defScope s__law_small) .none kV2 dc2 pm2 an2 cd2 ct2), sl2⟩) (c2 : PySem.W.codeIn K cd2 "_law_small" = true) (k2 : PySem.W.keepIn K (.ref f2) = true)
  (a3 : PySem.W.nsIn K mainGlobals "_law_is_letters" = some (some (.ref f3))) (l3 : K.lookup f3 = some ⟨oc3, od3, .func (PySem.W.fnOf "_law_is_letters" "_law_is_letters" (defArgs s__law_is_letters) (defBody s__law_is_letters) (defScope s__law_is_letters) .none kV3 dc3 pm3 an3 cd3 ct3), sl3⟩) (c3 : PySem.W.codeIn K cd3 "_law_is_letters" = true) (k3 : PySem.W.keepIn K (.ref f3) = true)
  (a4 : PySem.W.nsIn K mainGlobals "_law_signs" = some (some (.ref f4))) (l4 : K.lookup f4 = some ⟨oc4, od4, .func (PySem.W.fnOf "_law_signs" "_law_signs" (defArgs s__law_signs) (defBody s__law_signs) (defScope s__law_signs) .none kV4 dc4 pm4 an4 cd4 ct4), sl4⟩) (c4 : PySem.W.codeIn K cd4 "_law_signs" = true) (k4 : PySem.W.keepIn K (.ref f4) = true)
  (a5 : PySem.W.nsIn K mainGlobals "_law_is_sign" = some (some (.ref f5))) (l5 : K.lookup f5 = some ⟨oc5, od5, .func (PySem.W.fnOf "_law_is_sign" "_law_is_sign" (defArgs s__law_is_sign) (defBody s__law_is_sign) (defScope s__law_is_sign) .none kV5 dc5 pm5 an5 cd5 ct5), sl5⟩) (c5 : PySem.W.codeIn K cd5 "_law_is_sign" = true) (k5 : PySem.W.keepIn K (.ref f5) = true)
  (a6 : PySem.W.nsIn K mainGlobals "_law_pull" = some (some (.ref f6))) (l6 : K.lookup f6 = some ⟨oc6, od6, .func (PySem.W.fnOf "_law_pull" "_law_pull" (defArgs s__law_pull) (defBody s__law_pull) (defScope s__law_pull) .none kV6 dc6 pm6 an6 cd6 ct6), sl6⟩) (c6 : PySem.W.codeIn K cd6 "_law_pull" = true) (k6 : PySem.W.keepIn K (.ref f6) = true)
  (a7 : PySem.W.nsIn K mainGlobals "_law_of" = some (some (.ref f7))) (l7 : K.lookup f7 = some ⟨oc7, od7, .func (PySem.W.fnOf "_law_of" "_law_of" (defArgs s__law_of) (defBody s__law_of) (defScope s__law_of) .none kV7 dc7 pm7 an7 cd7 ct7), sl7⟩) (c7 : PySem.W.codeIn K cd7 "_law_of" = true) (k7 : PySem.W.keepIn K (.ref f7) = true)
  (a8 : PySem.W.nsIn K mainGlobals "_law_letters" = some (some (.ref f8))) (l8 : K.lookup f8 = some ⟨oc8, od8, .func (PySem.W.fnOf "_law_letters" "_law_letters" (defArgs s__law_letters) (defBody s__law_letters) (defScope s__law_letters) .none kV8 dc8 pm8 an8 cd8 ct8), sl8⟩) (c8 : PySem.W.codeIn K cd8 "_law_letters" = true) (k8 : PySem.W.keepIn K (.ref f8) = true)
  (a9 : PySem.W.nsIn K mainGlobals "_law_same" = some (some (.ref f9))) (l9 : K.lookup f9 = some ⟨oc9, od9, .func (PySem.W.fnOf "_law_same" "_law_same" (defArgs s__law_same) (defBody s__law_same) (defScope s__law_same) .none kV9 dc9 pm9 an9 cd9 ct9), sl9⟩) (c9 : PySem.W.codeIn K cd9 "_law_same" = true) (k9 : PySem.W.keepIn K (.ref f9) = true)
  (a10 : PySem.W.nsIn K mainGlobals "_law_signed" = some (some (.ref f10))) (l10 : K.lookup f10 = some ⟨oc10, od10, .func (PySem.W.fnOf "_law_signed" "_law_signed" (defArgs s__law_signed) (defBody s__law_signed) (defScope s__law_signed) .none kV10 dc10 pm10 an10 cd10 ct10), sl10⟩) (c10 : PySem.W.codeIn K cd10 "_law_signed" = true) (k10 : PySem.W.keepIn K (.ref f10) = true)
  (a11 : PySem.W.nsIn K mainGlobals "_is_made_of" = some (some (.ref f11))) (l11 : K.lookup f11 = some ⟨oc11, od11, .func (PySem.W.fnOf "_is_made_of" "_is_made_of" (defArgs s__is_made_of) (defBody s__is_made_of) (defScope s__is_made_of) .none kV11 dc11 pm11 an11 cd11 ct11), sl11⟩) (c11 : PySem.W.codeIn K cd11 "_is_made_of" = true) (k11 : PySem.W.keepIn K (.ref f11) = true)
  (a12 : PySem.W.nsIn K mainGlobals "is_letter_word" = some (some (.ref f12))) (l12 : K.lookup f12 = some ⟨oc12, od12, .func (PySem.W.fnOf "is_letter_word" "is_letter_word" (defArgs s_is_letter_word) (defBody s_is_letter_word) (defScope s_is_letter_word) .none kV12 dc12 pm12 an12 cd12 ct12), sl12⟩) (c12 : PySem.W.codeIn K cd12 "is_letter_word" = true) (k12 : PySem.W.keepIn K (.ref f12) = true)
  (a13 : PySem.W.nsIn K mainGlobals "_is_sign_word" = some (some (.ref f13))) (l13 : K.lookup f13 = some ⟨oc13, od13, .func (PySem.W.fnOf "_is_sign_word" "_is_sign_word" (defArgs s__is_sign_word) (defBody s__is_sign_word) (defScope s__is_sign_word) .none kV13 dc13 pm13 an13 cd13 ct13), sl13⟩) (c13 : PySem.W.codeIn K cd13 "_is_sign_word" = true) (k13 : PySem.W.keepIn K (.ref f13) = true)
  (a14 : PySem.W.nsIn K mainGlobals "is_word" = some (some (.ref f14))) (l14 : K.lookup f14 = some ⟨oc14, od14, .func (PySem.W.fnOf "is_word" "is_word" (defArgs s_is_word) (defBody s_is_word) (defScope s_is_word) .none kV14 dc14 pm14 an14 cd14 ct14), sl14⟩) (c14 : PySem.W.codeIn K cd14 "is_word" = true) (k14 : PySem.W.keepIn K (.ref f14) = true)
  (a15 : PySem.W.nsIn K mainGlobals "law" = some (some (.ref f15))) (l15 : K.lookup f15 = some ⟨oc15, od15, .func (PySem.W.fnOf "law" "law" (defArgs s_law) (defBody s_law) (defScope s_law) .none kV15 dc15 pm15 an15 cd15 ct15), sl15⟩) (c15 : PySem.W.codeIn K cd15 "law" = true) (k15 : PySem.W.keepIn K (.ref f15) = true)
  (z_abs : PySem.W.nsIn K mainGlobals "abs" = some none)
  (z_all : PySem.W.nsIn K mainGlobals "all" = some none)
  (z_bool : PySem.W.nsIn K mainGlobals "bool" = some none)
  (z_int : PySem.W.nsIn K mainGlobals "int" = some none)
  (z_isinstance : PySem.W.nsIn K mainGlobals "isinstance" = some none)
  (z_len : PySem.W.nsIn K mainGlobals "len" = some none)
  (z_list : PySem.W.nsIn K mainGlobals "list" = some none)
  (z_range : PySem.W.nsIn K mainGlobals "range" = some none)
  (z_str : PySem.W.nsIn K mainGlobals "str" = some none)
  (z_tuple : PySem.W.nsIn K mainGlobals "tuple" = some none)
  (z_zip : PySem.W.nsIn K mainGlobals "zip" = some none)
  (y_LETTERS : PySem.W.nsIn K mainGlobals "LETTERS" = some (some (.str "abcdefghijklmnopqrstuvwxyz" t_LETTERS)))
  (y_MOST_LETTERS : PySem.W.nsIn K mainGlobals "MOST_LETTERS" = some (some (.int 8 t_MOST_LETTERS)))
  (y_MOST_SIGNS : PySem.W.nsIn K mainGlobals "MOST_SIGNS" = some (some (.int 3 t_MOST_SIGNS)))
  (y_SIGNS : PySem.W.nsIn K mainGlobals "SIGNS" = some (some (.str "!#&*+,-./:;<=>?\x40[]^{|}" t_SIGNS))) :
  ∃ fd : FuncData, (∀ (s : Shared) (v : Value), BindsTo s fd ⟨[v], []⟩ [("_law_script", v)]) ∧ ∀ base : Heap, K.In base → base.Ns mainGlobals mg → FnOk l.prog w K mg base CX0 22 fa fd ["_law_script"] (spLaw K) := by
  have e := hfa.symm.trans (PySem.W.mg_of X G a15)
  cases e
  have F1 := fun_mk (st := s__law_bag) l1 c1 k1
  have F2 := fun_mk (st := s__law_small) l2 c2 k2
  have F3 := fun_mk (st := s__law_is_letters) l3 c3 k3
  have F4 := fun_mk (st := s__law_signs) l4 c4 k4
  have F5 := fun_mk (st := s__law_is_sign) l5 c5 k5
  have F6 := fun_mk (st := s__law_pull) l6 c6 k6
  have F7 := fun_mk (st := s__law_of) l7 c7 k7
  have F8 := fun_mk (st := s__law_letters) l8 c8 k8
  have F9 := fun_mk (st := s__law_same) l9 c9 k9
  have F10 := fun_mk (st := s__law_signed) l10 c10 k10
  have F11 := fun_mk (st := s__is_made_of) l11 c11 k11
  have F12 := fun_mk (st := s_is_letter_word) l12 c12 k12
  have F13 := fun_mk (st := s__is_sign_word) l13 c13 k13
  have F14 := fun_mk (st := s_is_word) l14 c14 k14
  have F15 := fun_mk (st := s_law) l15 c15 k15
  refine ⟨_, fun s v => .of_eq rfl, fun base _ _ => ok_law (T := {
    a__law_bag := f1, fd__law_bag := _, F__law_bag := F1, g__law_bag := PySem.W.mg_of X G a1, n__law_bag := (F1.binds (ps := ["_law_script"]) fun _ _ _ _ _ _ us hl => match us, hl with | [_], _ => rfl),
    a__law_small := f2, fd__law_small := _, F__law_small := F2, g__law_small := PySem.W.mg_of X G a2, n__law_small := (F2.binds (ps := []) fun _ _ _ _ _ _ us hl => match us, hl with | [], _ => rfl),
    a__law_is_letters := f3, fd__law_is_letters := _, F__law_is_letters := F3, g__law_is_letters := PySem.W.mg_of X G a3, n__law_is_letters := (F3.binds (ps := ["_law_thing"]) fun _ _ _ _ _ _ us hl => match us, hl with | [_], _ => rfl),
    a__law_signs := f4, fd__law_signs := _, F__law_signs := F4, g__law_signs := PySem.W.mg_of X G a4, n__law_signs := (F4.binds (ps := []) fun _ _ _ _ _ _ us hl => match us, hl with | [], _ => rfl),
    a__law_is_sign := f5, fd__law_is_sign := _, F__law_is_sign := F5, g__law_is_sign := PySem.W.mg_of X G a5, n__law_is_sign := (F5.binds (ps := ["_law_thing"]) fun _ _ _ _ _ _ us hl => match us, hl with | [_], _ => rfl),
    a__law_pull := f6, fd__law_pull := _, F__law_pull := F6, g__law_pull := PySem.W.mg_of X G a6, n__law_pull := (F6.binds (ps := ["_law_bag_here", "_law_many"]) fun _ _ _ _ _ _ us hl => match us, hl with | [_, _], _ => rfl),
    a__law_of := f7, fd__law_of := _, F__law_of := F7, g__law_of := PySem.W.mg_of X G a7, n__law_of := (F7.binds (ps := ["_law_bag_here", "_law_some"]) fun _ _ _ _ _ _ us hl => match us, hl with | [_, _], _ => rfl),
    a__law_letters := f8, fd__law_letters := _, F__law_letters := F8, g__law_letters := PySem.W.mg_of X G a8, n__law_letters := (F8.binds (ps := ["_law_bag_here", "_law_most_z"]) fun _ _ _ _ _ _ us hl => match us, hl with | [_, _], _ => rfl),
    a__law_same := f9, fd__law_same := _, F__law_same := F9, g__law_same := PySem.W.mg_of X G a9, n__law_same := (F9.binds (ps := ["_law_found", "_law_due"]) fun _ _ _ _ _ _ us hl => match us, hl with | [_, _], _ => rfl),
    a__law_signed := f10, fd__law_signed := _, F__law_signed := F10, g__law_signed := PySem.W.mg_of X G a10, n__law_signed := (F10.binds (ps := ["_law_bag_here"]) fun _ _ _ _ _ _ us hl => match us, hl with | [_], _ => rfl),
    a__is_made_of := f11, fd__is_made_of := _, F__is_made_of := F11, g__is_made_of := PySem.W.mg_of X G a11, n__is_made_of := (F11.binds (ps := ["value", "characters", "most"]) fun _ _ _ _ _ _ us hl => match us, hl with | [_, _, _], _ => rfl),
    a_is_letter_word := f12, fd_is_letter_word := _, F_is_letter_word := F12, g_is_letter_word := PySem.W.mg_of X G a12, n_is_letter_word := (F12.binds (ps := ["value"]) fun _ _ _ _ _ _ us hl => match us, hl with | [_], _ => rfl),
    a__is_sign_word := f13, fd__is_sign_word := _, F__is_sign_word := F13, g__is_sign_word := PySem.W.mg_of X G a13, n__is_sign_word := (F13.binds (ps := ["value"]) fun _ _ _ _ _ _ us hl => match us, hl with | [_], _ => rfl),
    a_is_word := f14, fd_is_word := _, F_is_word := F14, g_is_word := PySem.W.mg_of X G a14, n_is_word := (F14.binds (ps := ["value"]) fun _ _ _ _ _ _ us hl => match us, hl with | [_], _ => rfl),
    a_law := fa, fd_law := _, F_law := F15, g_law := PySem.W.mg_of X G a15,
    b_abs := PySem.W.mg_none_of X G z_abs,
    b_all := PySem.W.mg_none_of X G z_all,
    b_bool := PySem.W.mg_none_of X G z_bool,
    b_int := PySem.W.mg_none_of X G z_int,
    b_isinstance := PySem.W.mg_none_of X G z_isinstance,
    b_len := PySem.W.mg_none_of X G z_len,
    b_list := PySem.W.mg_none_of X G z_list,
    b_range := PySem.W.mg_none_of X G z_range,
    b_str := PySem.W.mg_none_of X G z_str,
    b_tuple := PySem.W.mg_none_of X G z_tuple,
    b_zip := PySem.W.mg_none_of X G z_zip,
    t_LETTERS := t_LETTERS, g_LETTERS := PySem.W.mg_of X G y_LETTERS,
    t_MOST_LETTERS := t_MOST_LETTERS, g_MOST_LETTERS := PySem.W.mg_of X G y_MOST_LETTERS,
    t_MOST_SIGNS := t_MOST_SIGNS, g_MOST_SIGNS := PySem.W.mg_of X G y_MOST_SIGNS,
    t_SIGNS := t_SIGNS, g_SIGNS := PySem.W.mg_of X G y_SIGNS})⟩
theorem walk {l : PySem.W.OpenLaw} {q : Program} {loose : List Str} {XP : (Str → Option Value) → Heap → Prop} {YP : World → Heap → Prop} {d : DefRec} {K : Params → PySem.W.Frag} (hn : l.most = some 63) (hdf : d.params.defaults = [])
    (hY : ∀ (w : World) (h : Heap), YP w h → (K w.params).In h)
    (F : ∀ (w : World) (mg : Str → Option Value) (fa : Addr) (h : Heap), (K w.params).In h → h.Ns mainGlobals mg → mg d.name = some (.ref fa) →
      ∃ fd : FuncData, (∀ (s : Shared) (u : Value), BindsTo s fd ⟨[u], []⟩ [("_law_script", u)]) ∧ ∀ base : Heap, (K w.params).In base → base.Ns mainGlobals mg → FnOk l.prog w (K w.params) mg base CX0 22 fa fd ["_law_script"] (spLaw (K w.params))) :
    PySem.W.WalkO q loose XP YP l.row.toRowW d [] (fun f vs => PySem.call f vs) :=
  L2.walk_of (n := 63) (k := 22) (x := "_law_script") (CX := fun _ => CX0) (sp := fun w => spLaw (K w.params)) hn (by decide) hdf ⟨rfl, by decide, by decide⟩ hY F (fun _ _ a ns hl _ hS => ⟨a, ns, rfl, hS, hl, fun _ => rfl⟩) fun _ _ _ _ _ z => z
end Kx
open PySem PySem.W PyProof.Rows
set_option maxRecDepth 100000 in
set_option maxHeartbeats 0 in
theorem PySem.Challenge.cw_pairbinds_k01_words_judged_holds : PySem.Challenge.rw_pairbinds_k01_words_judged.Holds := by
  w_on; o_law; k_head; (case hw => w_witness2)
  k_fill
  refine Kx.walk (l := PySem.Challenge.rw_pairbinds_k01_words_judged) rfl rfl (fun w h Y => PySem.W.kIn_of Y) ?F
  case F =>
    intro w mg fa h KX G hmg
    refine' Kx.all_mk KX G hmg ?a1 ?l1 ?c1 ?k1 ?a2 ?l2 ?c2 ?k2 ?a3 ?l3 ?c3 ?k3 ?a4 ?l4 ?c4 ?k4 ?a5 ?l5 ?c5 ?k5 ?a6 ?l6 ?c6 ?k6 ?a7 ?l7 ?c7 ?k7 ?a8 ?l8 ?c8 ?k8 ?a9 ?l9 ?c9 ?k9 ?a10 ?l10 ?c10 ?k10 ?a11 ?l11 ?c11 ?k11 ?a12 ?l12 ?c12 ?k12 ?a13 ?l13 ?c13 ?k13 ?a14 ?l14 ?c14 ?k14 ?a15 ?l15 ?c15 ?k15 ?z_abs ?z_all ?z_bool ?z_int ?z_isinstance ?z_len ?z_list ?z_range ?z_str ?z_tuple ?z_zip ?y_LETTERS ?y_MOST_LETTERS ?y_MOST_SIGNS ?y_SIGNS
    (case a1 => k_is)
    (case l1 => k_is)
    (case c1 => k_is)
    (case k1 => k_is)
    (case a2 => k_is)
    (case l2 => k_is)
    (case c2 => k_is)
    (case k2 => k_is)
    (case a3 => k_is)
    (case l3 => k_is)
    (case c3 => k_is)
    (case k3 => k_is)
    (case a4 => k_is)
    (case l4 => k_is)
    (case c4 => k_is)
    (case k4 => k_is)
    (case a5 => k_is)
    (case l5 => k_is)
    (case c5 => k_is)
    (case k5 => k_is)
    (case a6 => k_is)
    (case l6 => k_is)
    (case c6 => k_is)
    (case k6 => k_is)
    (case a7 => k_is)
    (case l7 => k_is)
    (case c7 => k_is)
    (case k7 => k_is)
    (case a8 => k_is)
    (case l8 => k_is)
    (case c8 => k_is)
    (case k8 => k_is)
    (case a9 => k_is)
    (case l9 => k_is)
    (case c9 => k_is)
    (case k9 => k_is)
    (case a10 => k_is)
    (case l10 => k_is)
    (case c10 => k_is)
    (case k10 => k_is)
    (case a11 => k_is)
    (case l11 => k_is)
    (case c11 => k_is)
    (case k11 => k_is)
    (case a12 => k_is)
    (case l12 => k_is)
    (case c12 => k_is)
    (case k12 => k_is)
    (case a13 => k_is)
    (case l13 => k_is)
    (case c13 => k_is)
    (case k13 => k_is)
    (case a14 => k_is)
    (case l14 => k_is)
    (case c14 => k_is)
    (case k14 => k_is)
    (case a15 => k_is)
    (case l15 => k_is)
    (case c15 => k_is)
    (case k15 => k_is)
    (case z_abs => k_is)
    (case z_all => k_is)
    (case z_bool => k_is)
    (case z_int => k_is)
    (case z_isinstance => k_is)
    (case z_len => k_is)
    (case z_list => k_is)
    (case z_range => k_is)
    (case z_str => k_is)
    (case z_tuple => k_is)
    (case z_zip => k_is)
    (case y_LETTERS => k_is)
    (case y_MOST_LETTERS => k_is)
    (case y_MOST_SIGNS => k_is)
    (case y_SIGNS => k_is)
#print axioms PySem.Challenge.cw_pairbinds_k01_words_judged_holds
