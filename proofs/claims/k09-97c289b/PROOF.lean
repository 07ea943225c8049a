import PyProof.Rows.All
import Wide.All
import OpenK.AllK
import Wide.FinOn
import HandS.ForMost
import HandS.Walk
import HandS.Zip
import HandS.IsInst
import HandS.Deep
import HandS.Defaults
import HandS.Codes
import HandS.MakeKwOnly
import HandS.OwnEq
import HandS.FStr
import HandS.ClsMeth
import HandS.TryOnly
import HandS.More
import HandS.Property
import HandS.Lambda
import KE.KDflt
import HandS.FStrTup
import PyProof.ReprNest
import KE.KExcSuper
import HandS.ExcInit
import HandS.EndTab
import KE.KTryMore
import HandS.Exc
import HandS.ExcIs
import HandS.ExcField
import HandS.HotCalls
import PyProof.ListStr
import PyProof.Rows.SetFrom
import PyProof.ListNew
import HandS.SetKeys
import HandS.SetBool
import PyProof.Rows.TupDisplay
import HandS.Style
import PyProof.NeKinds
import KE.SortData
import HandS.TupSets
import HandS.DictComp
import HandS.Conv
import HandS.Iter
import PySem.Challenge.RW_pairbinds_k09_whole_fewest_ties

set_option Elab.async false
set_option linter.all false
set_option maxRecDepth 100000
set_option maxHeartbeats 4000000

/-! QD1: data over the abstract heap: what a value stands for, what may change, what the slots hold. -/
namespace QD
open PySem L2

/-- a lambda: what its function object tells; dfl: the default of its parameter, if it has one -/
structure LamD where
  q : Str
  params : Arguments
  body : Expr
  scope : Scope
  clo : List (Str × Addr)
  dfl : Option Int
deriving Inhabited
abbrev lamObj (L : LamD) (dV doc pm : Value) (c' : Addr) (ct : Value) : Obj := PySem.W.kdv_obj "<lambda>" L.q L.params (.expr L.body) L.scope L.clo dV doc pm c' ct
/-- this very object -/
def pinO (o : Obj) : HO := .frz o (.ext fun _ => True)
/-- at c: a code object of the name q -/
def CodeAt (H : Hp) (c : Addr) (q : Str) : Prop := ∃ (o : Obj) (vs : Array Value) (t : Tok), H c = some (pinO o) ∧ o.data = .fields vs ∧ vs[1]? = some (.str q t)
theorem CodeAt.grow {H H' : Hp} (e : ∀ a o, H a = some o → H' a = some o) {c : Addr} {q : Str} (h : CodeAt H c q) : CodeAt H' c q := by
  obtain ⟨o, vs, t, h1, h2⟩ := h
  exact ⟨o, vs, t, e _ _ h1, h2⟩
def DflAt (H : Hp) (dV : Value) : Option Int → Prop
  | none => dV = .none
  | some k => ∃ t, dV = .ref t ∧ H t = some (.tup [.int k])
/-- at f: a function object of the lambda -/
def LamAt (H : Hp) (L : LamD) (f : Addr) : Prop := ∃ (doc pm : Value) (c' : Addr) (ct dV : Value), H f = some (pinO (lamObj L dV doc pm c' ct)) ∧ CodeAt H c' L.q ∧ DflAt H dV L.dfl

/-- data: what a value stands for. raw: the value itself (a def, a class, the bag) -/
inductive D where
  | non | bl (b : Bool) | int (i : Int) | str (x : Str) | lst (ds : List D) | tup (ds : List D) | ins (C : Addr) (fs : List (Str × D)) | raw (v : V)
  | lam (L : LamD) | dk (kvs : List (Key × D)) | dt (kvs : List (List Key × D))
deriving Inhabited

section
variable (K : PySem.W.Frag) (H : Hp)
mutual
def R : D → V → Prop
  | .non, v => v = .non
  | .bl b, v => v = .bl b
  | .int i, v => v = .int i
  | .str x, v => v = .str x
  | .lst ds, v => ∃ a xs, v = .ref a ∧ H a = some (.lst xs) ∧ RA ds xs
  | .tup ds, v => ∃ a xs, v = .ref a ∧ SqT K H a xs ∧ RA ds xs
  | .ins C fs, v => ∃ a dx gs, v = .ref a ∧ H a = some (.ins C dx gs) ∧ RF fs gs
  | .raw u, v => v = u
  | .lam L, v => ∃ f, v = .ref f ∧ LamAt H L f
  | .dk kvs, v => ∃ a gs, v = .ref a ∧ Rd H a (.dK gs) ∧ RK kvs gs
  | .dt kvs, v => ∃ a gs, v = .ref a ∧ Rd H a (.dT gs) ∧ RT kvs gs
def RA : List D → List V → Prop
  | [], vs => vs = []
  | d :: ds, vs => ∃ v r, vs = v :: r ∧ R d v ∧ RA ds r
def RF : List (Str × D) → List (Str × V) → Prop
  | [], gs => gs = []
  | f :: fs, gs => ∃ v r, gs = (f.1, v) :: r ∧ R f.2 v ∧ RF fs r
def RK : List (Key × D) → List (Key × V) → Prop
  | [], gs => gs = []
  | f :: fs, gs => ∃ v r, gs = (f.1, v) :: r ∧ R f.2 v ∧ RK fs r
def RT : List (List Key × D) → List (List Key × V) → Prop
  | [], gs => gs = []
  | f :: fs, gs => ∃ v r, gs = (f.1, v) :: r ∧ R f.2 v ∧ RT fs r
end
end
theorem DflAt.grow {H H' : Hp} (e : ∀ a o, H a = some o → H' a = some o) {dV : Value} : ∀ {k : Option Int}, DflAt H dV k → DflAt H' dV k
  | none, h => h
  | some _, ⟨t, e1, h⟩ => ⟨t, e1, e _ _ h⟩
theorem LamAt.grow {H H' : Hp} (e : ∀ a o, H a = some o → H' a = some o) {L : LamD} {f : Addr} (h : LamAt H L f) : LamAt H' L f := by
  obtain ⟨doc, pm, c', ct, dV, h1, h2, h3⟩ := h
  exact ⟨doc, pm, c', ct, dV, e _ _ h1, h2.grow e, h3.grow e⟩

def Grow (H H' : Hp) : Prop := ∀ a o, H a = some o → H' a = some o
theorem grow_l {K : PySem.W.Frag} {H H' : Hp} {a : Addr} {xs : List V} (e : Grow H H') (h : SqL K H a xs) : SqL K H' a xs := by
  rcases h with (h | ⟨o, h⟩) | h
  · exact .inl (.inl (e _ _ h))
  · exact .inl (.inr ⟨o, e _ _ h⟩)
  · exact .inr h
theorem grow_t {K : PySem.W.Frag} {H H' : Hp} {a : Addr} {xs : List V} (e : Grow H H') (h : SqT K H a xs) : SqT K H' a xs := by
  rcases h with (h | ⟨o, h⟩) | h
  · exact .inl (.inl (e _ _ h))
  · exact .inl (.inr ⟨o, e _ _ h⟩)
  · exact .inr h
section
variable {K : PySem.W.Frag} {H H' : Hp}
mutual
theorem R.grow (e : Grow H H') : ∀ (d : D) (v : V), R K H d v → R K H' d v
  | .non, _, h => h
  | .bl _, _, h => h
  | .int _, _, h => h
  | .str _, _, h => h
  | .lst ds, v, h => by
    obtain ⟨a, xs, e1, h1, h2⟩ := h
    exact ⟨a, xs, e1, e _ _ h1, RA.grow e ds xs h2⟩
  | .tup ds, v, h => by
    obtain ⟨a, xs, e1, h1, h2⟩ := h
    exact ⟨a, xs, e1, grow_t e h1, RA.grow e ds xs h2⟩
  | .ins C fs, v, h => by
    obtain ⟨a, dx, gs, e1, h1, h2⟩ := h
    exact ⟨a, dx, gs, e1, e _ _ h1, RF.grow e fs gs h2⟩
  | .raw _, _, h => h
  | .lam L, v, h => by
    obtain ⟨f, e1, h1⟩ := h
    exact ⟨f, e1, h1.grow e⟩
  | .dk kvs, v, h => by
    obtain ⟨a, gs, e1, h1, h2⟩ := h
    exact ⟨a, gs, e1, h1.elim (fun z => .inl (e _ _ z)) (fun ⟨o, z⟩ => .inr ⟨o, e _ _ z⟩), RK.grow e kvs gs h2⟩
  | .dt kvs, v, h => by
    obtain ⟨a, gs, e1, h1, h2⟩ := h
    exact ⟨a, gs, e1, h1.elim (fun z => .inl (e _ _ z)) (fun ⟨o, z⟩ => .inr ⟨o, e _ _ z⟩), RT.grow e kvs gs h2⟩
theorem RA.grow (e : Grow H H') : ∀ (ds : List D) (vs : List V), RA K H ds vs → RA K H' ds vs
  | [], _, h => h
  | d :: ds, vs, h => by
    obtain ⟨v, r, e1, h1, h2⟩ := h
    exact ⟨v, r, e1, R.grow e d v h1, RA.grow e ds r h2⟩
theorem RF.grow (e : Grow H H') : ∀ (fs : List (Str × D)) (gs : List (Str × V)), RF K H fs gs → RF K H' fs gs
  | [], _, h => h
  | f :: fs, gs, h => by
    obtain ⟨v, r, e1, h1, h2⟩ := h
    exact ⟨v, r, e1, R.grow e f.2 v h1, RF.grow e fs r h2⟩
theorem RK.grow (e : Grow H H') : ∀ (fs : List (Key × D)) (gs : List (Key × V)), RK K H fs gs → RK K H' fs gs
  | [], _, h => h
  | f :: fs, gs, h => by
    obtain ⟨v, r, e1, h1, h2⟩ := h
    exact ⟨v, r, e1, R.grow e f.2 v h1, RK.grow e fs r h2⟩
theorem RT.grow (e : Grow H H') : ∀ (fs : List (List Key × D)) (gs : List (List Key × V)), RT K H fs gs → RT K H' fs gs
  | [], _, h => h
  | f :: fs, gs, h => by
    obtain ⟨v, r, e1, h1, h2⟩ := h
    exact ⟨v, r, e1, R.grow e f.2 v h1, RT.grow e fs r h2⟩
end
theorem RA.length : ∀ {ds : List D} {vs : List V}, RA K H ds vs → vs.length = ds.length
  | [], vs, h => by
    have e : vs = [] := h
    subst e
    rfl
  | d :: ds, vs, h => by
    obtain ⟨v, r, e1, h1, h2⟩ := h
    rw [e1, List.length_cons, List.length_cons, RA.length h2]
theorem RA.get : ∀ {ds : List D} {vs : List V} {i : Nat} {v : V}, RA K H ds vs → vs[i]? = some v → ∃ d, ds[i]? = some d ∧ R K H d v
  | [], vs, i, v, h, e => by
    rw [show vs = [] from h] at e
    simp at e
  | d :: ds, vs, 0, v, h, e => by
    obtain ⟨w, r, e1, h1, h2⟩ := h
    subst e1
    simp at e
    subst e
    exact ⟨d, rfl, h1⟩
  | d :: ds, vs, i + 1, v, h, e => by
    obtain ⟨w, r, e1, h1, h2⟩ := h
    subst e1
    simp at e
    simpa using RA.get h2 e
theorem RA.get' : ∀ {ds : List D} {vs : List V} {i : Nat} {d : D}, RA K H ds vs → ds[i]? = some d → ∃ v, vs[i]? = some v ∧ R K H d v
  | [], vs, i, d, h, e => by simp at e
  | c :: ds, vs, 0, d, h, e => by
    obtain ⟨w, r, e1, h1, h2⟩ := h
    subst e1
    simp at e
    subst e
    exact ⟨w, rfl, h1⟩
  | c :: ds, vs, i + 1, d, h, e => by
    obtain ⟨w, r, e1, h1, h2⟩ := h
    subst e1
    simp at e
    simpa using RA.get' h2 e
theorem RA.snoc : ∀ {ds : List D} {vs : List V} {d : D} {v : V}, RA K H ds vs → R K H d v → RA K H (ds ++ [d]) (vs ++ [v])
  | [], vs, d, v, h, hd => by
    rw [show vs = [] from h]
    exact ⟨v, [], rfl, hd, rfl⟩
  | c :: ds, vs, d, v, h, hd => by
    obtain ⟨w, r, e1, h1, h2⟩ := h
    subst e1
    exact ⟨w, r ++ [v], rfl, h1, RA.snoc h2 hd⟩
theorem RA.app : ∀ {ds es : List D} {vs us : List V}, RA K H ds vs → RA K H es us → RA K H (ds ++ es) (vs ++ us)
  | [], es, vs, us, h, hd => by
    rw [show vs = [] from h]
    exact hd
  | c :: ds, es, vs, us, h, hd => by
    obtain ⟨w, r, e1, h1, h2⟩ := h
    subst e1
    exact ⟨w, r ++ us, rfl, h1, RA.app h2 hd⟩
theorem RA.set : ∀ {ds : List D} {vs : List V} {d : D} {v : V} (j : Nat), RA K H ds vs → R K H d v → RA K H (ds.set j d) (vs.set j v)
  | [], vs, d, v, j, h, hd => by
    rw [show vs = [] from h]
    exact rfl
  | c :: ds, vs, d, v, 0, h, hd => by
    obtain ⟨w, r, e1, h1, h2⟩ := h
    subst e1
    exact ⟨v, r, rfl, hd, h2⟩
  | c :: ds, vs, d, v, j + 1, h, hd => by
    obtain ⟨w, r, e1, h1, h2⟩ := h
    subst e1
    exact ⟨w, r.set j v, rfl, h1, RA.set j h2 hd⟩
theorem RA.drop : ∀ {ds : List D} {vs : List V} (n : Nat), RA K H ds vs → RA K H (ds.drop n) (vs.drop n)
  | ds, vs, 0, h => h
  | [], vs, n + 1, h => by
    rw [show vs = [] from h]
    exact rfl
  | c :: ds, vs, n + 1, h => by
    obtain ⟨w, r, e1, h1, h2⟩ := h
    subst e1
    exact RA.drop n h2
theorem RA.take : ∀ {ds : List D} {vs : List V} (n : Nat), RA K H ds vs → RA K H (ds.take n) (vs.take n)
  | ds, vs, 0, h => rfl
  | [], vs, n + 1, h => by
    rw [show vs = [] from h]
    exact rfl
  | c :: ds, vs, n + 1, h => by
    obtain ⟨w, r, e1, h1, h2⟩ := h
    subst e1
    exact ⟨w, r.take n, rfl, h1, RA.take n h2⟩
theorem RA.eraseIdx : ∀ {ds : List D} {vs : List V} (n : Nat), RA K H ds vs → RA K H (ds.eraseIdx n) (vs.eraseIdx n)
  | [], vs, n, h => by
    rw [show vs = [] from h]
    exact rfl
  | c :: ds, vs, 0, h => by
    obtain ⟨w, r, e1, h1, h2⟩ := h
    subst e1
    exact h2
  | c :: ds, vs, n + 1, h => by
    obtain ⟨w, r, e1, h1, h2⟩ := h
    subst e1
    exact ⟨w, r.eraseIdx n, rfl, h1, RA.eraseIdx n h2⟩
theorem RA.ints : ∀ {ns : List Int} {vs : List V}, RA K H (ns.map D.int) vs → vs = ns.map V.int
  | [], vs, h => h
  | c :: ds, vs, h => by
    obtain ⟨w, r, e1, h1, h2⟩ := h
    subst e1
    rw [show w = V.int c from h1, RA.ints h2]
    rfl
theorem RA.strs : ∀ {ns : List Str} {vs : List V}, RA K H (ns.map D.str) vs → vs = ns.map V.str
  | [], vs, h => h
  | c :: ds, vs, h => by
    obtain ⟨w, r, e1, h1, h2⟩ := h
    subst e1
    rw [show w = V.str c from h1, RA.strs h2]
    rfl
theorem RA.bls : ∀ {ns : List Bool} {vs : List V}, RA K H (ns.map D.bl) vs → vs = ns.map V.bl
  | [], vs, h => h
  | c :: ds, vs, h => by
    obtain ⟨w, r, e1, h1, h2⟩ := h
    subst e1
    rw [show w = V.bl c from h1, RA.bls h2]
    rfl
theorem RA.ints' : ∀ (ns : List Int), RA K H (ns.map D.int) (ns.map V.int)
  | [] => rfl
  | c :: ds => ⟨_, _, rfl, rfl, RA.ints' ds⟩
theorem RA.strs' : ∀ (ns : List Str), RA K H (ns.map D.str) (ns.map V.str)
  | [] => rfl
  | c :: ds => ⟨_, _, rfl, rfl, RA.strs' ds⟩
end

/-! ### what may not be leant on -/
/-- the heap without the addresses M -/
def but (H : Hp) (M : List Addr) : Hp := fun a => if a ∈ M then none else H a
theorem but_some {H : Hp} {M : List Addr} {a : Addr} {o : HO} (h : but H M a = some o) : a ∉ M ∧ H a = some o := by
  unfold but at h
  by_cases q : a ∈ M
  · rw [if_pos q] at h; cases h
  · rw [if_neg q] at h; exact ⟨q, h⟩
theorem but_of {H : Hp} {M : List Addr} {a : Addr} {o : HO} (q : a ∉ M) (h : H a = some o) : but H M a = some o := by
  unfold but
  rw [if_neg q]
  exact h
theorem but_nil {H : Hp} : but H [] = H := by
  funext a
  unfold but
  rw [if_neg (by simp)]
theorem but_le {H : Hp} {M N : List Addr} (h : ∀ a, a ∈ M → a ∈ N) : Grow (but H N) (but H M) := fun a o e => by
  obtain ⟨h1, h2⟩ := but_some e
  exact but_of (fun z => h1 (h a z)) h2

/-- only objects of S may have changed -/
def Ex (S : List Addr) (H H' : Hp) : Prop := ∀ a o, H a = some o → a ∉ S → H' a = some o
theorem Ex.refl {S : List Addr} (H : Hp) : Ex S H H := fun _ _ h _ => h
theorem Ex.trans {S : List Addr} {H H1 H2 : Hp} (a : Ex S H H1) (b : Ex S H1 H2) : Ex S H H2 := fun x o h n => b x o (a x o h n) n
theorem Ex.wide {S T : List Addr} {H H1 : Hp} (a : Ex S H H1) (h : ∀ x, x ∈ S → x ∈ T) : Ex T H H1 := fun x o e n => a x o e fun z => n (h x z)
theorem Ex.of {S : List Addr} {H H1 : Hp} (a : Grow H H1) : Ex S H H1 := fun x o e _ => a x o e
theorem Ex.new {S : List Addr} {H : Hp} {p : Addr} {o : HO} (h : H p = none) : Ex S H (upd H p o) := fun a u e _ => by
  rw [upd_ne (ne_of_none e h)]
  exact e
theorem Grow.new {H : Hp} {p : Addr} {o : HO} (h : H p = none) : Grow H (upd H p o) := fun a u e => by
  rw [upd_ne (ne_of_none e h)]
  exact e
theorem Ex.but {S M : List Addr} {H H' : Hp} (e : Ex S H H') (h : ∀ a, a ∈ S → a ∈ M) : Grow (but H M) (but H' M) := fun a o q => by
  obtain ⟨h1, h2⟩ := but_some q
  exact but_of h1 (e a o h2 fun z => h1 (h a z))
theorem Ex.live {S : List Addr} {H H' : Hp} (e : Ex S H H') {a : Addr} (h : H a ≠ none) (n : a ∉ S) : H' a ≠ none := by
  cases q : H a with
  | none => exact absurd q h
  | some o => rw [e a o q n]; intro z; cases z

/-- the bag of a law: a list [script, place, left, mixed, count] at b, the script's list at a -/
def BagAt (M : List Addr) (H : Hp) (p : Addr × Addr) : Prop := ∃ (ns : List Int) (i1 i2 i3 i4 : Int),
  H p.1 = some (.lst [.ref p.2, .int i1, .int i2, .int i3, .int i4]) ∧ but H M p.2 = some (.lst (ns.map V.int)) ∧ ns.length ≤ 63 ∧ 0 ≤ i1 ∧ i1 ≤ (ns.length : Int) ∧ 0 ≤ i2 ∧ 0 ≤ i3 ∧ i3 < 4294967296 ∧ 0 ≤ i4

/-- what may stand in an own cell -/
def mutO : HO → Bool
  | .tup _ => false
  | .frz _ _ => false
  | _ => true
/-- neither a tuple nor one very object stands at a -/
def KdAt (H : Hp) (a : Addr) : Prop := ∃ o, H a = some o ∧ mutO o = true
theorem KdAt.keep {H H' : Hp} {a : Addr} (h : KdAt H a) (k : ∀ o, H a = some o → H' a = some o) : KdAt H' a := by
  obtain ⟨o, h1, h2⟩ := h
  exact ⟨o, k o h1, h2⟩
theorem KdAt.ne {H : Hp} {a : Addr} (h : KdAt H a) : H a ≠ none := by
  obtain ⟨o, h1, _⟩ := h
  rw [h1]; intro z; cases z
theorem KdAt.nofrz {H : Hp} {a : Addr} (h : KdAt H a) : ∀ o u, H a ≠ some (.frz o u) := fun o u z => by
  obtain ⟨o', h1, h2⟩ := h
  rw [h1] at z
  cases z
  cases h2
/-- the frame of a call: what may not be leant on (M), what may change (S), what stays true of M (I); the bag, if there is one -/
structure Fm where
  M : List Addr
  S : List Addr
  I : Hp → Prop
  bag : Option (Addr × Addr)
  sub : ∀ a, a ∈ S → a ∈ M
  st : ∀ H H', Grow H H' → I H → I H'
  sd : ∀ H, I H → ∀ a, a ∈ S → ∀ gs, H a ≠ some (.xd gs)
  kd : ∀ H, I H → ∀ a, a ∈ M → KdAt H a
  bS : ∀ b, bag = some b → b.1 ∈ S
  bI : ∀ b, bag = some b → ∀ H, I H → BagAt M H b
  bP : ∀ b, bag = some b → ∀ H H', I H → (∀ a o, H a = some o → a ≠ b.1 → H' a = some o) → BagAt M H' b → I H'
  mu : ∀ H H' p, I H → (∀ a o, H a = some o → a ≠ p → H' a = some o) → p ∉ M → (∀ b, bag = some b → p ≠ b.2) → (∀ o u, H p ≠ some (.frz o u)) → I H'
  me : Option Addr := none

theorem Fm.liv (c : Fm) (H : Hp) (i : c.I H) (a : Addr) (h : a ∈ c.M) : H a ≠ none := (c.kd H i a h).ne
theorem BagAt.grow {M : List Addr} {H H' : Hp} {b : Addr × Addr} (g : Grow H H') (h : BagAt M H b) : BagAt M H' b := by
  obtain ⟨ns, i1, i2, i3, i4, h1, h2, h3⟩ := h
  obtain ⟨q1, q2⟩ := but_some h2
  exact ⟨ns, i1, i2, i3, i4, g _ _ h1, but_of q1 (g _ _ q2), h3⟩
theorem BagAt.narrow {M O : List Addr} {H : Hp} {b : Addr × Addr} (h : BagAt (M ++ O) H b) : BagAt M H b := by
  obtain ⟨ns, i1, i2, i3, i4, h1, h2, h3⟩ := h
  exact ⟨ns, i1, i2, i3, i4, h1, but_le (fun x z => List.mem_append_left _ z) _ _ h2, h3⟩
theorem BagAt.wide {M O : List Addr} {H : Hp} {b : Addr × Addr} (h : BagAt M H b) (n : b.2 ∉ O) : BagAt (M ++ O) H b := by
  obtain ⟨ns, i1, i2, i3, i4, h1, h2, h3⟩ := h
  obtain ⟨q1, q2⟩ := but_some h2
  exact ⟨ns, i1, i2, i3, i4, h1, but_of (fun z => (List.mem_append.mp z).elim q1 n) q2, h3⟩
theorem Grow.live {H H' : Hp} (g : Grow H H') {a : Addr} (h : H a ≠ none) : H' a ≠ none := by
  cases q : H a with
  | none => exact absurd q h
  | some o => rw [g a o q]; intro z; cases z

/-- no bag, nothing may change -/
def Fm.pure : Fm where
  M := []
  S := []
  I := fun _ => True
  bag := none
  sub := fun a h => by simp at h
  st := fun _ _ _ h => h
  sd := fun _ _ a h => by simp at h
  kd := fun _ _ a h => by simp at h
  bS := fun b h => by cases h
  bI := fun b h => by cases h
  bP := fun b h => by cases h
  mu := fun _ _ _ h _ _ _ _ => h
/-- a law's own frame, behind the making of its bag -/
def Fm.law (b : Addr × Addr) : Fm where
  M := [b.1]
  S := [b.1]
  I := fun H => BagAt [b.1] H b
  bag := some b
  sub := fun a h => h
  st := fun _ _ g h => h.grow g
  sd := fun H h a ha gs => by
    obtain ⟨ns, i1, i2, i3, i4, h1, _⟩ := h
    rw [List.mem_singleton.mp ha, h1]
    intro z; cases z
  kd := fun H h a ha => by
    obtain ⟨ns, i1, i2, i3, i4, h1, _⟩ := h
    rw [List.mem_singleton.mp ha]
    exact ⟨_, h1, rfl⟩
  bS := fun b' h => by cases h; exact List.mem_singleton.mpr rfl
  bI := fun b' h H i => by cases h; exact i
  bP := fun b' h H H' i k z => by cases h; exact z
  mu := fun H H' p i k n m _ => by
    obtain ⟨ns, i1, i2, i3, i4, h1, h2, h3⟩ := i
    obtain ⟨q1, q2⟩ := but_some h2
    exact ⟨ns, i1, i2, i3, i4, k _ _ h1 fun e => n (List.mem_singleton.mpr e.symm), but_of q1 (k _ _ q2 fun e => m b rfl e.symm), h3⟩
/-- own lists (O) are left out, too -/
def Fm.wide (c : Fm) (O : List Addr) (hb : ∀ b, c.bag = some b → b.2 ∉ O ∧ b.1 ∉ O) : Fm where
  M := c.M ++ O
  S := c.S
  I := fun H => c.I H ∧ ∀ a, a ∈ O → KdAt H a
  bag := c.bag
  sub := fun a h => List.mem_append_left _ (c.sub a h)
  st := fun H H' g h => ⟨c.st H H' g h.1, fun a ha => (h.2 a ha).keep (g a)⟩
  sd := fun H h => c.sd H h.1
  kd := fun H h a ha => (List.mem_append.mp ha).elim (fun z => c.kd H h.1 a z) (fun z => h.2 a z)
  bS := c.bS
  bI := fun b e H h => (c.bI b e H h.1).wide (hb b e).1
  bP := fun b e H H' h k z => ⟨c.bP b e H H' h.1 k z.narrow, fun a ha => (h.2 a ha).keep fun o q => k a o q fun e2 => (hb b e).2 (e2 ▸ ha)⟩
  mu := fun H H' p h k n m f => ⟨c.mu H H' p h.1 k (fun z => n (List.mem_append_left _ z)) m f, fun a ha => (h.2 a ha).keep fun o q => k a o q fun e2 => n (List.mem_append_right _ (e2 ▸ ha))⟩
end QD

/-! QD2: the slots by data, readings by data: SimE, SimT, SimA, SimS and the first rules. -/
namespace QD
open PySem L2

inductive Ent where | val (d : D) | own (d : D)
deriving Inhabited
/-- what an own cell holds: a list, or an object that is being made -/
def OwnR (K : PySem.W.Frag) (H : Hp) : D → HO → Prop
  | .lst ds, o => ∃ xs, o = .lst xs ∧ RA K H ds xs
  | .ins C fs, o => ∃ dx gs, o = .ins C dx gs ∧ RF K H fs gs
  | .dk kvs, o => ∃ gs, o = .dK gs ∧ RK K H kvs gs
  | .dt kvs, o => ∃ gs, o = .dT gs ∧ RT K H kvs gs
  | _, _ => False
theorem OwnR.grow {K : PySem.W.Frag} {H H' : Hp} (g : Grow H H') : ∀ {d : D} {o : HO}, OwnR K H d o → OwnR K H' d o
  | .lst _, _, ⟨xs, e, h⟩ => ⟨xs, e, RA.grow g _ _ h⟩
  | .ins _ _, _, ⟨dx, gs, e, h⟩ => ⟨dx, gs, e, RF.grow g _ _ h⟩
  | .non, _, h => h.elim
  | .bl _, _, h => h.elim
  | .int _, _, h => h.elim
  | .str _, _, h => h.elim
  | .tup _, _, h => h.elim
  | .raw _, _, h => h.elim
  | .lam _, _, h => h.elim
  | .dk _, _, ⟨gs, e, h⟩ => ⟨gs, e, RK.grow g _ _ h⟩
  | .dt _, _, ⟨gs, e, h⟩ => ⟨gs, e, RT.grow g _ _ h⟩
theorem OwnR.R {K : PySem.W.Frag} {H : Hp} {p : Addr} : ∀ {d : D} {o : HO}, H p = some o → OwnR K H d o → QD.R K H d (.ref p)
  | .lst _, _, e, ⟨xs, z, h⟩ => ⟨p, xs, rfl, z ▸ e, h⟩
  | .ins _ _, _, e, ⟨dx, gs, z, h⟩ => ⟨p, dx, gs, rfl, z ▸ e, h⟩
  | .non, _, _, h => h.elim
  | .bl _, _, _, h => h.elim
  | .int _, _, _, h => h.elim
  | .str _, _, _, h => h.elim
  | .tup _, _, _, h => h.elim
  | .raw _, _, _, h => h.elim
  | .lam _, _, _, h => h.elim
  | .dk _, _, e, ⟨gs, z, h⟩ => ⟨p, gs, rfl, .inl (z ▸ e), h⟩
  | .dt _, _, e, ⟨gs, z, h⟩ => ⟨p, gs, rfl, .inl (z ▸ e), h⟩
theorem OwnR.nofrz {K : PySem.W.Frag} {H : Hp} : ∀ {d : D} {o : HO}, OwnR K H d o → ∀ a u, o ≠ .frz a u
  | .lst _, _, ⟨xs, e, _⟩, _, _, z => by rw [e] at z; cases z
  | .ins _ _, _, ⟨dx, gs, e, _⟩, _, _, z => by rw [e] at z; cases z
  | .dk _, _, ⟨gs, e, _⟩, _, _, z => by rw [e] at z; cases z
  | .dt _, _, ⟨gs, e, _⟩, _, _, z => by rw [e] at z; cases z
  | .non, _, h, _, _, _ => h.elim
  | .bl _, _, h, _, _, _ => h.elim
  | .int _, _, h, _, _, _ => h.elim
  | .str _, _, h, _, _, _ => h.elim
  | .tup _, _, h, _, _, _ => h.elim
  | .raw _, _, h, _, _, _ => h.elim
  | .lam _, _, h, _, _, _ => h.elim
theorem OwnR.mut {K : PySem.W.Frag} {H : Hp} : ∀ {d : D} {o : HO}, OwnR K H d o → mutO o = true
  | .lst _, _, ⟨xs, e, _⟩ => by rw [e]; rfl
  | .ins _ _, _, ⟨dx, gs, e, _⟩ => by rw [e]; rfl
  | .dk _, _, ⟨gs, e, _⟩ => by rw [e]; rfl
  | .dt _, _, ⟨gs, e, _⟩ => by rw [e]; rfl
  | .non, _, h => h.elim
  | .bl _, _, h => h.elim
  | .int _, _, h => h.elim
  | .str _, _, h => h.elim
  | .tup _, _, h => h.elim
  | .raw _, _, h => h.elim
  | .lam _, _, h => h.elim
abbrev DEnv := List (Option Ent)

structure Rep (K : PySem.W.Frag) (c : Fm) (H0 : Hp) (O : List Addr) (H : Hp) (σ : St) (ρ : DEnv) : Prop where
  inv0 : c.I H0
  inv : c.I H
  ent : Ex c.S H0 H
  fresh : ∀ a, a ∈ O → H0 a = none
  liv : ∀ a, a ∈ O → KdAt H a
  len : σ.length = ρ.length
  val : ∀ (i : Nat) (d : D), ρ[i]? = some (some (Ent.val d)) → ∃ v, σ[i]? = some (some v) ∧ R K (but H (c.M ++ O)) d v
  own : ∀ (i : Nat) (ds : D), ρ[i]? = some (some (Ent.own ds)) → ∃ p o, σ[i]? = some (some (.ref p)) ∧ p ∈ O ∧ H p = some o ∧ OwnR K (but H (c.M ++ O)) ds o
  sep : ∀ (i j : Nat) (ds es : D) (p : Addr), ρ[i]? = some (some (Ent.own ds)) → ρ[j]? = some (some (Ent.own es)) → σ[i]? = some (some (.ref p)) → σ[j]? = some (some (.ref p)) → i = j
  me : ∀ (x C : Addr) (fs : List (Str × D)), c.me = some x → ρ[0]? = some (some (Ent.own (.ins C fs))) → σ[0]? = some (some (.ref x))

section
variable {K : PySem.W.Frag} {c : Fm} {H0 : Hp} {O : List Addr} {H H' : Hp} {σ : St} {ρ : DEnv}
theorem Rep.notM (r : Rep K c H0 O H σ ρ) {a : Addr} (h : a ∈ O) : a ∉ c.M := fun z => c.liv H0 r.inv0 a z (r.fresh a h)
theorem Rep.notS (r : Rep K c H0 O H σ ρ) {a : Addr} (h : a ∈ O) : a ∉ c.S := fun z => r.notM h (c.sub a z)
theorem Rep.bagO (r : Rep K c H0 O H σ ρ) : ∀ b, c.bag = some b → b.2 ∉ O ∧ b.1 ∉ O := fun b e => by
  obtain ⟨ns, i1, i2, i3, i4, h1, h2, h3⟩ := c.bI b e H0 r.inv0
  refine ⟨fun z => ?_, fun z => ?_⟩
  · have := r.fresh _ z
    rw [(but_some h2).2] at this
    cases this
  · have := r.fresh _ z
    rw [h1] at this
    cases this
theorem Rep.new (r : Rep K c H0 O H σ ρ) {p : Addr} (h : H p = none) : p ∉ c.M ++ O := fun z => (List.mem_append.mp z).elim (fun q => c.liv H r.inv p q h) (fun q => (r.liv p q).ne h)
theorem Rep.new0 (r : Rep K c H0 O H σ ρ) {p : Addr} (h : H p = none) : H0 p = none := by
  cases q : H0 p with
  | none => rfl
  | some o =>
    by_cases z : p ∈ c.S
    · exact absurd h (c.liv H r.inv p (c.sub p z))
    · rw [r.ent p o q z] at h; cases h
theorem Rep.up (r : Rep K c H0 O H σ ρ) (e : Ex c.S H H') (i : c.I H') : Rep K c H0 O H' σ ρ := by
  have g : Grow (but H (c.M ++ O)) (but H' (c.M ++ O)) := e.but fun a z => List.mem_append_left _ (c.sub a z)
  refine ⟨r.inv0, i, r.ent.trans e, r.fresh, fun a h => (r.liv a h).keep fun o q => e a o q (r.notS h), r.len, fun k d q => ?_, fun k ds q => ?_, r.sep, r.me⟩
  · obtain ⟨v, h1, h2⟩ := r.val k d q
    exact ⟨v, h1, R.grow g d v h2⟩
  · obtain ⟨p, xs, h1, h2, h3, h4⟩ := r.own k ds q
    exact ⟨p, xs, h1, h2, e _ _ h3 (r.notS h2), h4.grow g⟩
/-- the frame that a callee is given -/
def Rep.fm (r : Rep K c H0 O H σ ρ) : Fm := c.wide O r.bagO
end

/-- a value on the way: b tells that it may lean on an own list -/
def RB (K : PySem.W.Frag) (c : Fm) (O : List Addr) (H : Hp) (b : Bool) (d : D) (v : V) : Prop := R K (but H (if b then c.M else c.M ++ O)) d v
def RBA (K : PySem.W.Frag) (c : Fm) (O : List Addr) (H : Hp) (b : Bool) (ds : List D) (vs : List V) : Prop := RA K (but H (if b then c.M else c.M ++ O)) ds vs
section
variable {K : PySem.W.Frag} {c : Fm} {O : List Addr} {H H' : Hp} {b b' : Bool} {d : D} {v : V} {ds : List D} {vs : List V}
theorem mo_of {x : Addr} (h : x ∈ (if b then c.M else c.M ++ O)) : x ∈ c.M ++ O := by
  cases b with
  | true => exact List.mem_append_left _ h
  | false => exact h
theorem RB.up (e : Ex c.S H H') (h : RB K c O H b d v) : RB K c O H' b d v := R.grow (e.but fun a z => by
  cases b with
  | true => exact c.sub a z
  | false => exact List.mem_append_left _ (c.sub a z)) d v h
theorem RBA.up (e : Ex c.S H H') (h : RBA K c O H b ds vs) : RBA K c O H' b ds vs := RA.grow (e.but fun a z => by
  cases b with
  | true => exact c.sub a z
  | false => exact List.mem_append_left _ (c.sub a z)) ds vs h
theorem RB.or (h : RB K c O H b d v) : RB K c O H (b || b') d v := by
  cases b with
  | true => exact h
  | false =>
    cases b' with
    | true => exact R.grow (but_le fun a z => List.mem_append_left _ z) d v h
    | false => exact h
theorem RB.or' (h : RB K c O H b d v) : RB K c O H (b' || b) d v := by rw [Bool.or_comm]; exact h.or
theorem RBA.or (h : RBA K c O H b ds vs) : RBA K c O H (b || b') ds vs := by
  cases b with
  | true => exact h
  | false =>
    cases b' with
    | true => exact RA.grow (but_le fun a z => List.mem_append_left _ z) ds vs h
    | false => exact h
theorem RBA.or' (h : RBA K c O H b ds vs) : RBA K c O H (b' || b) ds vs := by rw [Bool.or_comm]; exact h.or
end

/-! ### data's transformers -/
abbrev DE := DEnv → (D → Bool → Prop) → Prop
abbrev DT := DEnv → (Bool → Prop) → Prop
abbrev DA := DEnv → (List D → Bool → Prop) → Prop
structure DEnds where
  nx : DEnv → Prop
  rt : D → Prop
  bk : DEnv → Prop := fun _ => False
  ct : DEnv → Prop := fun _ => False
abbrev DS := DEnds → DEnv → Prop
abbrev DG := D → DEnv → (DEnv → Prop) → Prop
/-- an operation on two data; on one; on a list -/
abbrev DR := D → D → (D → Prop) → Prop
abbrev DU := D → (D → Prop) → Prop
abbrev DC := List D → (D → Prop) → Prop

section
variable (K : PySem.W.Frag) (c : Fm) (H0 : Hp)
def SimE (te : TE) (de : DE) : Prop := ∀ ρ P, de ρ P → ∀ O σ H Q, Rep K c H0 O H σ ρ → (∀ v d b H', P d b → Rep K c H0 O H' σ ρ → Ex c.S H H' → RB K c O H' b d v → Q v H') → te σ H Q
def SimT (tt : TT) (dt : DT) : Prop := ∀ ρ P, dt ρ P → ∀ O σ H Q, Rep K c H0 O H σ ρ → (∀ k H', P k → Rep K c H0 O H' σ ρ → Ex c.S H H' → Q k H') → tt σ H Q
def SimA (ta : TA) (da : DA) : Prop := ∀ ρ P, da ρ P → ∀ O σ H Q, Rep K c H0 O H σ ρ → (∀ vs ds b H', P ds b → Rep K c H0 O H' σ ρ → Ex c.S H H' → RBA K c O H' b ds vs → Q vs H') → ta σ H Q
structure Real (F : Hp) (Dd : DEnds) (Dn : Ends) : Prop where
  nx : ∀ ρ O σ H, Dd.nx ρ → Rep K c H0 O H σ ρ → Grow F (but H (c.M ++ O)) → Dn.nx σ H
  rt : ∀ v d H, Dd.rt d → c.I H → Ex c.S H0 H → R K (but H c.M) d v → Dn.rt v H
  bk : ∀ ρ O σ H, Dd.bk ρ → Rep K c H0 O H σ ρ → Grow F (but H (c.M ++ O)) → Dn.bk σ H
  ct : ∀ ρ O σ H, Dd.ct ρ → Rep K c H0 O H σ ρ → Grow F (but H (c.M ++ O)) → Dn.ct σ H
def SimS (ts : TS) (ds : DS) : Prop := ∀ Dd ρ, ds Dd ρ → ∀ O σ H Dn F, Rep K c H0 O H σ ρ → Grow F (but H (c.M ++ O)) → Real K c H0 F Dd Dn → ts Dn σ H
def SimG (g : TG) (dg : DG) : Prop := ∀ x ρ P, dg x ρ P → ∀ v O σ H Q, Rep K c H0 O H σ ρ → R K (but H (c.M ++ O)) x v → (∀ ρ' σ', P ρ' → Rep K c H0 O H σ' ρ' → Q σ' H) → g v σ H Q
/-- a two-place operation by values -/
def SimR (r : R2) (dr : DR) : Prop := ∀ x y P, dr x y P → ∀ O H Q v u b σ ρ, Rep K c H0 O H σ ρ → RB K c O H b x v → RB K c O H b y u → (∀ z w H', P z → Ex c.S H H' → c.I H' → RB K c O H' b z w → Q w H') → r v u H Q
def SimU (r : V → Hp → VK → Prop) (du : DU) : Prop := ∀ x P, du x P → ∀ O H Q v b σ ρ, Rep K c H0 O H σ ρ → RB K c O H b x v → (∀ z w H', P z → Ex c.S H H' → c.I H' → RB K c O H' b z w → Q w H') → r v H Q
def SimC (r : List V → Hp → VK → Prop) (dc : DC) : Prop := ∀ xs P, dc xs P → ∀ O H Q vs b σ ρ, Rep K c H0 O H σ ρ → RBA K c O H b xs vs → (∀ z w H', P z → Ex c.S H H' → c.I H' → RB K c O H' b z w → Q w H') → r vs H Q
end

/-- flat data lean on nothing -/
def D.flat : D → Bool
  | .non | .bl _ | .int _ | .str _ | .raw _ => true
  | _ => false
theorem flat_any {K : PySem.W.Frag} {H H' : Hp} : ∀ {d : D} {v : V}, d.flat = true → R K H d v → R K H' d v
  | .non, _, _, h => h
  | .bl _, _, _, h => h
  | .int _, _, _, h => h
  | .str _, _, _, h => h
  | .raw _, _, _, h => h
  | .lst _, _, f, _ => by cases f
  | .tup _, _, f, _ => by cases f
  | .ins _ _, _, f, _ => by cases f
  | .lam _, _, f, _ => by cases f
  | .dk _, _, f, _ => by cases f
  | .dt _, _, f, _ => by cases f
/-- what is left of the mark behind an operation -/
def dirt (d : D) (b : Bool) : Bool := b && !d.flat
theorem RB.dirt {K : PySem.W.Frag} {c : Fm} {O : List Addr} {H : Hp} {b : Bool} {d : D} {v : V} (h : RB K c O H b d v) : RB K c O H (dirt d b) d v := by
  cases b with
  | false => exact h
  | true =>
    by_cases f : d.flat = true
    · unfold QD.dirt
      rw [f]
      exact flat_any f h
    · unfold QD.dirt
      rw [Bool.eq_false_iff.mpr f]
      exact h

/-- a datum of one kind -/
def asBl : D → (Bool → Prop) → Prop
  | .bl k, P => P k
  | _, _ => False
def asInt : D → (Int → Prop) → Prop
  | .int k, P => P k
  | _, _ => False
def asStr : D → (Str → Prop) → Prop
  | .str k, P => P k
  | _, _ => False
def optP {α : Type} : Option α → (α → Prop) → Prop
  | some a, P => P a
  | none, _ => False
theorem optP_some {α : Type} {o : Option α} {P : α → Prop} (h : optP o P) : ∃ a, o = some a ∧ P a := by
  cases o with
  | none => exact h.elim
  | some a => exact ⟨a, rfl, h⟩
theorem asBl_congr {x y : D} {P : Bool → Prop} (h : x = y) : asBl x P = asBl y P := by rw [h]
theorem asInt_congr {x y : D} {P : Int → Prop} (h : x = y) : asInt x P = asInt y P := by rw [h]
theorem asStr_congr {x y : D} {P : Str → Prop} (h : x = y) : asStr x P = asStr y P := by rw [h]
theorem optP_congr {α : Type} {x y : Option α} {P : α → Prop} (h : x = y) : optP x P = optP y P := by rw [h]
/-- what a slot holds -/
def getE : Option (Option Ent) → (D → Bool → Prop) → Prop
  | some (some (.val d)), P => P d false
  | some (some (.own d)), P => P d true
  | _, _ => False
theorem getE_congr {x y : Option (Option Ent)} {P : D → Bool → Prop} (h : x = y) : getE x P = getE y P := by rw [h]

/-! ### the rules -/
def dVar (i : Nat) : DE := fun ρ P => getE ρ[i]? P
def dC (d : D) : DE := fun _ P => P d false
def dOp (r : DR) (da db : DE) : DE := fun ρ P => da ρ fun x b => db ρ fun y b' => r x y fun z => P z (dirt z (b || b'))
def dUn (r : DU) (da : DE) : DE := fun ρ P => da ρ fun x b => r x fun z => P z (dirt z b)
def dNil : DA := fun _ P => P [] false
def dCons (da : DE) (dr : DA) : DA := fun ρ P => da ρ fun x b => dr ρ fun xs b' => P (x :: xs) (b || b')
def dCB (r : DC) (da : DA) : DE := fun ρ P => da ρ fun xs b => r xs fun z => P z (dirt z b)
def dTup (da : DA) : DE := fun ρ P => da ρ fun xs b => xs.length ≤ sizeLine ∧ P (.tup xs) b
def dLst (da : DA) : DE := fun ρ P => da ρ fun xs b => xs.length ≤ sizeLine ∧ P (.lst xs) b
def dTest (da : DE) : DT := fun ρ P => da ρ fun x _ => asBl x P
def dAnd (t u : DT) : DT := fun ρ P => t ρ fun k => if k = true then u ρ P else P false
def dOr (t u : DT) : DT := fun ρ P => t ρ fun k => if k = true then P true else u ρ P
def dNot (t : DT) : DT := fun ρ P => t ρ fun k => P (!k)
def dIfE (t : DT) (da db : DE) : DE := fun ρ P => t ρ fun k => if k = true then da ρ P else db ρ P
def dAndV (da db : DE) : DE := fun ρ P => da ρ fun x _ => asBl x fun k => if k = true then db ρ P else P (.bl false) false
def dOrV (da db : DE) : DE := fun ρ P => da ρ fun x _ => asBl x fun k => if k = true then P (.bl true) false else db ρ P
def dNotV (da : DE) : DE := fun ρ P => da ρ fun x _ => asBl x fun k => P (.bl (!k)) false
-- statements
def dNext : DS := fun Dd ρ => Dd.nx ρ
def dSeq (a b : DS) : DS := fun Dd ρ => a { Dd with nx := b Dd } ρ
def dIf (t : DT) (a b : DS) : DS := fun Dd ρ => t ρ fun k => if k = true then a Dd ρ else b Dd ρ
def dRet (e : DE) : DS := fun Dd ρ => e ρ fun d _ => Dd.rt d
def dRetN : DS := fun Dd _ => Dd.rt .non
def dBreak : DS := fun Dd ρ => Dd.bk ρ
def dCont : DS := fun Dd ρ => Dd.ct ρ
def dDrop (e : DE) : DS := fun Dd ρ => e ρ fun _ _ => Dd.nx ρ
def dAsg (e : DE) (g : DG) : DS := fun Dd ρ => e ρ fun d b => b = false ∧ g d ρ Dd.nx
def dGName (i : Nat) : DG := fun d ρ Q => Q (ρ.set i (some (Ent.val d)))
def dAug (i : Nat) (e : DE) (r : DR) : DS := fun Dd ρ => dVar i ρ fun x b => e ρ fun y b' => r x y fun z => dirt z (b || b') = false ∧ Dd.nx (ρ.set i (some (Ent.val z)))

section
variable {K : PySem.W.Frag} {c : Fm} {H0 : Hp} {ta tb te : TE} {da db de : DE} {i : Nat}
theorem sim_var : SimE K c H0 (tVar i) (dVar i) := by
  intro ρ P h O σ H Q r q
  unfold dVar getE at h
  split at h
  · rename_i d e
    obtain ⟨v, h1, h2⟩ := r.val i d e
    exact ⟨v, h1, q v d false H h r (Ex.refl H) h2⟩
  · rename_i ds e
    obtain ⟨p, xs, h1, h2, h3, h4⟩ := r.own i ds e
    refine ⟨.ref p, h1, q _ _ true H h r (Ex.refl H) (OwnR.R (but_of (r.notM h2) h3) (h4.grow (but_le fun a z => List.mem_append_left _ z)))⟩
  · exact h.elim
theorem sim_c {d : D} {v : V} (h : ∀ H, R K H d v) : SimE K c H0 (tC v) (dC d) := fun ρ P p O σ H Q r q => q v d false H p r (Ex.refl H) (h _)
theorem sim_non : SimE K c H0 (tC .non) (dC .non) := sim_c fun _ => rfl
theorem sim_bl {b : Bool} : SimE K c H0 (tC (.bl b)) (dC (.bl b)) := sim_c fun _ => rfl
theorem sim_int {k : Int} : SimE K c H0 (tC (.int k)) (dC (.int k)) := sim_c fun _ => rfl
theorem sim_str {x : Str} : SimE K c H0 (tC (.str x)) (dC (.str x)) := sim_c fun _ => rfl
theorem sim_raw {a : Addr} : SimE K c H0 (tC (.ref a)) (dC (.raw (.ref a))) := sim_c fun _ => rfl
theorem sim_ty {n : String} : SimE K c H0 (tC (.ty n)) (dC (.raw (.ty n))) := sim_c fun _ => rfl
theorem sim_op {r : R2} {dr : DR} (hr : SimR K c H0 r dr) (ha : SimE K c H0 ta da) (hb : SimE K c H0 tb db) : SimE K c H0 (tOp r ta tb) (dOp dr da db) := by
  intro ρ P h O σ H Q rp q
  refine ha ρ _ h O σ H _ rp fun v x b H1 h1 rp1 e1 rx => ?_
  refine hb ρ _ h1 O σ H1 _ rp1 fun u y b' H2 h2 rp2 e2 ry => ?_
  exact hr x y _ h2 O H2 _ v u (b || b') σ ρ rp2 (rx.up e2).or ry.or' fun z w H3 h3 e3 i3 rz => q w z _ H3 h3 (rp2.up e3 i3) ((e1.trans e2).trans e3) rz.dirt
theorem sim_un {r : V → Hp → VK → Prop} {du : DU} (hr : SimU K c H0 r du) (ha : SimE K c H0 ta da) : SimE K c H0 (tUn r ta) (dUn du da) := by
  intro ρ P h O σ H Q rp q
  refine ha ρ _ h O σ H _ rp fun v x b H1 h1 rp1 e1 rx => ?_
  exact hr x _ h1 O H1 _ v b σ ρ rp1 rx fun z w H3 h3 e3 i3 rz => q w z _ H3 h3 (rp1.up e3 i3) (e1.trans e3) rz.dirt
theorem sim_nil : SimA K c H0 tNil dNil := fun ρ P h O σ H Q rp q => q [] [] false H h rp (Ex.refl H) rfl
theorem sim_cons {tr : TA} {dr : DA} (ha : SimE K c H0 ta da) (hr : SimA K c H0 tr dr) : SimA K c H0 (tCons ta tr) (dCons da dr) := by
  intro ρ P h O σ H Q rp q
  refine ha ρ _ h O σ H _ rp fun v x b H1 h1 rp1 e1 rx => ?_
  refine hr ρ _ h1 O σ H1 _ rp1 fun vs xs b' H2 h2 rp2 e2 rxs => ?_
  exact q (v :: vs) (x :: xs) _ H2 h2 rp2 (e1.trans e2) ⟨v, vs, rfl, (rx.up e2).or, rxs.or'⟩
theorem sim_cb {r : List V → Hp → VK → Prop} {dc : DC} {t : TA} {dt : DA} (hr : SimC K c H0 r dc) (ha : SimA K c H0 t dt) : SimE K c H0 (tCB r t) (dCB dc dt) := by
  intro ρ P h O σ H Q rp q
  refine ha ρ _ h O σ H _ rp fun vs xs b H1 h1 rp1 e1 rx => ?_
  exact hr xs _ h1 O H1 _ vs b σ ρ rp1 rx fun z w H3 h3 e3 i3 rz => q w z _ H3 h3 (rp1.up e3 i3) (e1.trans e3) rz.dirt
theorem RBA.len {K : PySem.W.Frag} {c : Fm} {O : List Addr} {H : Hp} {b : Bool} {ds : List D} {vs : List V} (h : RBA K c O H b ds vs) : vs.length = ds.length := RA.length h
theorem sim_tup {t : TA} {dt : DA} (ha : SimA K c H0 t dt) : SimE K c H0 (tTup t) (dTup dt) := by
  intro ρ P h O σ H Q rp q
  refine ha ρ _ h O σ H _ rp fun vs xs b H1 h1 rp1 e1 rx => ?_
  refine ⟨by rw [rx.len]; exact h1.1, fun p hp => ?_⟩
  have hn := rp1.new hp
  have ex : Ex c.S H1 (upd H1 p (.tup vs)) := Ex.new hp
  refine q _ _ b _ h1.2 (rp1.up ex (c.st _ _ (Grow.new hp) rp1.inv)) (e1.trans ex) ⟨p, vs, rfl, .inl (.inl (but_of (fun z => hn (mo_of z)) upd_same)), rx.up ex⟩
theorem sim_lst {t : TA} {dt : DA} (ha : SimA K c H0 t dt) : SimE K c H0 (tLst t) (dLst dt) := by
  intro ρ P h O σ H Q rp q
  refine ha ρ _ h O σ H _ rp fun vs xs b H1 h1 rp1 e1 rx => ?_
  refine ⟨by rw [rx.len]; exact h1.1, fun p hp => ?_⟩
  have hn := rp1.new hp
  have ex : Ex c.S H1 (upd H1 p (.lst vs)) := Ex.new hp
  refine q _ _ b _ h1.2 (rp1.up ex (c.st _ _ (Grow.new hp) rp1.inv)) (e1.trans ex) ⟨p, vs, rfl, but_of (fun z => hn (mo_of z)) upd_same, rx.up ex⟩
theorem rb_bl {K : PySem.W.Frag} {H : Hp} {v : V} : ∀ {d : D} {P : Bool → Prop}, R K H d v → asBl d P → ∃ k, v = .bl k ∧ P k
  | .bl k, _, r, h => ⟨k, r, h⟩
  | .non, _, _, h => h.elim
  | .int _, _, _, h => h.elim
  | .str _, _, _, h => h.elim
  | .lst _, _, _, h => h.elim
  | .tup _, _, _, h => h.elim
  | .ins _ _, _, _, h => h.elim
  | .lam _, _, _, h => h.elim
  | .dk _, _, _, h => h.elim
  | .dt _, _, _, h => h.elim
  | .raw _, _, _, h => h.elim
theorem sim_test (ha : SimE K c H0 ta da) : SimT K c H0 (tTest ta) (dTest da) := by
  intro ρ P h O σ H Q rp q
  refine ha ρ _ h O σ H _ rp fun v x b H1 h1 rp1 e1 rx => ?_
  obtain ⟨k, e, h2⟩ := rb_bl rx h1
  exact ⟨k, e, q k H1 h2 rp1 e1⟩
theorem sim_B (ha : SimE K c H0 ta da) : SimT K c H0 (tB ta) (dTest da) := by
  intro ρ P h O σ H Q rp q
  refine ha ρ _ h O σ H _ rp fun v x b H1 h1 rp1 e1 rx => ?_
  obtain ⟨k, e, h2⟩ := rb_bl rx h1
  exact ⟨k, e, q k H1 h2 rp1 e1⟩
variable {t u : TT} {dt du : DT}
theorem sim_and (ha : SimT K c H0 t dt) (hb : SimT K c H0 u du) : SimT K c H0 (tAnd t u) (dAnd dt du) := by
  intro ρ P h O σ H Q rp q
  refine ha ρ _ h O σ H _ rp fun k H1 h1 rp1 e1 => ?_
  cases k with
  | true => exact hb ρ _ h1 O σ H1 _ rp1 fun k H2 h2 rp2 e2 => q k H2 h2 rp2 (e1.trans e2)
  | false => exact q false H1 h1 rp1 e1
theorem sim_or (ha : SimT K c H0 t dt) (hb : SimT K c H0 u du) : SimT K c H0 (tOr t u) (dOr dt du) := by
  intro ρ P h O σ H Q rp q
  refine ha ρ _ h O σ H _ rp fun k H1 h1 rp1 e1 => ?_
  cases k with
  | false => exact hb ρ _ h1 O σ H1 _ rp1 fun k H2 h2 rp2 e2 => q k H2 h2 rp2 (e1.trans e2)
  | true => exact q true H1 h1 rp1 e1
theorem sim_not (ha : SimT K c H0 t dt) : SimT K c H0 (tNot t) (dNot dt) := by
  intro ρ P h O σ H Q rp q
  exact ha ρ _ h O σ H _ rp fun k H1 h1 rp1 e1 => q (!k) H1 h1 rp1 e1
theorem sim_ifE (ht : SimT K c H0 t dt) (ha : SimE K c H0 ta da) (hb : SimE K c H0 tb db) : SimE K c H0 (tIf t ta tb) (dIfE dt da db) := by
  intro ρ P h O σ H Q rp q
  refine ht ρ _ h O σ H _ rp fun k H1 h1 rp1 e1 => ?_
  cases k with
  | true => exact ha ρ _ h1 O σ H1 _ rp1 fun v d b H2 h2 rp2 e2 => q v d b H2 h2 rp2 (e1.trans e2)
  | false => exact hb ρ _ h1 O σ H1 _ rp1 fun v d b H2 h2 rp2 e2 => q v d b H2 h2 rp2 (e1.trans e2)
theorem sim_andV (ha : SimE K c H0 ta da) (hb : SimE K c H0 tb db) : SimE K c H0 (tAndV ta tb) (dAndV da db) := by
  intro ρ P h O σ H Q rp q
  refine ha ρ _ h O σ H _ rp fun v x b H1 h1 rp1 e1 rx => ?_
  obtain ⟨k, e, h2⟩ := rb_bl rx h1
  refine ⟨k, e, ?_⟩
  cases k with
  | true => exact hb ρ _ h2 O σ H1 _ rp1 fun v d b H2 h2 rp2 e2 => q v d b H2 h2 rp2 (e1.trans e2)
  | false => exact q _ _ _ H1 h2 rp1 e1 rfl
theorem sim_orV (ha : SimE K c H0 ta da) (hb : SimE K c H0 tb db) : SimE K c H0 (tOrV ta tb) (dOrV da db) := by
  intro ρ P h O σ H Q rp q
  refine ha ρ _ h O σ H _ rp fun v x b H1 h1 rp1 e1 rx => ?_
  obtain ⟨k, e, h2⟩ := rb_bl rx h1
  refine ⟨k, e, ?_⟩
  cases k with
  | false => exact hb ρ _ h2 O σ H1 _ rp1 fun v d b H2 h2 rp2 e2 => q v d b H2 h2 rp2 (e1.trans e2)
  | true => exact q _ _ _ H1 h2 rp1 e1 rfl
theorem sim_notV (ha : SimE K c H0 ta da) : SimE K c H0 (tNotV ta) (dNotV da) := by
  intro ρ P h O σ H Q rp q
  refine ha ρ _ h O σ H _ rp fun v x b H1 h1 rp1 e1 rx => ?_
  obtain ⟨k, e, h2⟩ := rb_bl rx h1
  exact ⟨k, e, q _ _ _ H1 h2 rp1 e1 rfl⟩

/-! statements -/
theorem Grow.trans {H H1 H2 : Hp} (a : Grow H H1) (b : Grow H1 H2) : Grow H H2 := fun x o e => b x o (a x o e)
theorem Grow.refl (H : Hp) : Grow H H := fun _ _ e => e
theorem Grow.ex {F H H1 : Hp} {O : List Addr} (g : Grow F (but H (c.M ++ O))) (e : Ex c.S H H1) : Grow F (but H1 (c.M ++ O)) := g.trans (e.but fun a z => List.mem_append_left _ (c.sub a z))
variable {ts us : TS} {ds ds' : DS}
theorem sim_next : SimS K c H0 tNext dNext := fun Dd ρ h O σ H Dn F rp g R => R.nx ρ O σ H h rp g
theorem sim_seq (ha : SimS K c H0 ts ds) (hb : SimS K c H0 us ds') : SimS K c H0 (tSeq ts us) (dSeq ds ds') := by
  intro Dd ρ h O σ H Dn F rp g R
  exact ha _ ρ h O σ H _ F rp g ⟨fun ρ' O' σ' H' h' rp' g' => hb Dd ρ' h' O' σ' H' Dn F rp' g' R, R.rt, R.bk, R.ct⟩
theorem sim_ifS (ht : SimT K c H0 t dt) (ha : SimS K c H0 ts ds) (hb : SimS K c H0 us ds') : SimS K c H0 (tIfS t ts us) (dIf dt ds ds') := by
  intro Dd ρ h O σ H Dn F rp g R
  refine ht ρ _ h O σ H _ rp fun k H1 h1 rp1 e1 => ?_
  cases k with
  | true => exact ha Dd ρ h1 O σ H1 Dn F rp1 (g.ex e1) R
  | false => exact hb Dd ρ h1 O σ H1 Dn F rp1 (g.ex e1) R
theorem sim_ret (ha : SimE K c H0 ta da) : SimS K c H0 (tRet ta) (dRet da) := by
  intro Dd ρ h O σ H Dn F rp g R
  refine ha ρ _ h O σ H _ rp fun v d b H1 h1 rp1 e1 rv => ?_
  refine R.rt v d H1 h1 rp1.inv rp1.ent ?_
  cases b with
  | true => exact rv
  | false => exact QD.R.grow (but_le fun a z => List.mem_append_left _ z) d v rv
theorem sim_retN : SimS K c H0 tRetN dRetN := fun Dd ρ h O σ H Dn F rp g R => R.rt .non .non H h rp.inv rp.ent rfl
theorem sim_break : SimS K c H0 tBreak dBreak := fun Dd ρ h O σ H Dn F rp g R => R.bk ρ O σ H h rp g
theorem sim_cont : SimS K c H0 tCont dCont := fun Dd ρ h O σ H Dn F rp g R => R.ct ρ O σ H h rp g
theorem sim_drop (ha : SimE K c H0 ta da) : SimS K c H0 (tDrop ta) (dDrop da) := by
  intro Dd ρ h O σ H Dn F rp g R
  exact ha ρ _ h O σ H _ rp fun v d b H1 h1 rp1 e1 rv => R.nx ρ O σ H1 h1 rp1 (g.ex e1)
theorem Rep.setVal {O : List Addr} {H : Hp} {σ : St} {ρ : DEnv} (r : Rep K c H0 O H σ ρ) (i : Nat) {d : D} {v : V} (h : R K (but H (c.M ++ O)) d v) : Rep K c H0 O H (σ.set i (some v)) (ρ.set i (some (Ent.val d))) := by
  refine ⟨r.inv0, r.inv, r.ent, r.fresh, r.liv, by rw [List.length_set, List.length_set]; exact r.len, fun k e q => ?_, fun k ds q => ?_, fun k j ds es p q1 q2 z1 z2 => ?_, fun x C fs hm q => ?_⟩
  · by_cases hk : i = k
    · subst hk
      have hl : i < ρ.length := by
        have := (List.getElem?_eq_some_iff.mp q).1
        rwa [List.length_set] at this
      rw [List.getElem?_set_self hl] at q
      cases q
      exact ⟨v, List.getElem?_set_self (by rw [r.len]; exact hl), h⟩
    · rw [List.getElem?_set_ne hk] at q
      obtain ⟨u, h1, h2⟩ := r.val k e q
      exact ⟨u, by rw [List.getElem?_set_ne hk]; exact h1, h2⟩
  · have hk : ¬ i = k := fun hk => by
      subst hk
      have hl : i < ρ.length := by
        have := (List.getElem?_eq_some_iff.mp q).1
        rwa [List.length_set] at this
      rw [List.getElem?_set_self hl] at q
      cases q
    rw [List.getElem?_set_ne hk] at q
    obtain ⟨p, xs, h1, h2⟩ := r.own k ds q
    exact ⟨p, xs, by rw [List.getElem?_set_ne hk]; exact h1, h2⟩
  · have no : ∀ (k : Nat) (es : D), (ρ.set i (some (Ent.val d)))[k]? = some (some (Ent.own es)) → ¬ i = k := fun k es q hk => by
      subst hk
      have hl : i < ρ.length := by
        have := (List.getElem?_eq_some_iff.mp q).1
        rwa [List.length_set] at this
      rw [List.getElem?_set_self hl] at q
      cases q
    have n1 := no _ _ q1
    have n2 := no _ _ q2
    rw [List.getElem?_set_ne n1] at q1 z1
    rw [List.getElem?_set_ne n2] at q2 z2
    exact r.sep k j ds es p q1 q2 z1 z2
  · have hk : ¬ i = 0 := fun hk => by
      subst hk
      have hl : 0 < ρ.length := by
        have := (List.getElem?_eq_some_iff.mp q).1
        rwa [List.length_set] at this
      rw [List.getElem?_set_self hl] at q
      cases q
    rw [List.getElem?_set_ne hk] at q ⊢
    exact r.me x C fs hm q
theorem sim_gname : SimG K c H0 (gName i) (dGName i) := fun x ρ P h v O σ H Q rp rv q => q _ _ h (rp.setVal i rv)
theorem sim_asg {g : TG} {dg : DG} (ha : SimE K c H0 ta da) (hg : SimG K c H0 g dg) : SimS K c H0 (tAsg ta g) (dAsg da dg) := by
  intro Dd ρ h O σ H Dn F rp g R
  refine ha ρ _ h O σ H _ rp fun v d b H1 h1 rp1 e1 rv => ?_
  obtain ⟨hb, h2⟩ := h1
  subst hb
  exact hg d ρ _ h2 v O σ H1 _ rp1 rv fun ρ' σ' h3 rp3 => R.nx ρ' O σ' H1 h3 rp3 (g.ex e1)
end
end QD

/-! QD3: operators, built-ins by data. -/
namespace QD
open PySem L2

def rOr (r s : R2) : R2 := fun x y H Q => r x y H Q ∨ s x y H Q
theorem opr_or {X : Cx} {f : Value → Value → Sem Value} {r s : R2} (h1 : OpR X f r) (h2 : OpR X f s) : OpR X f (rOr r s) := by
  intro pins st σ H x y v u Q I rx ry h
  rcases h with h | h
  · exact h1 pins st σ H x y v u Q I rx ry h
  · exact h2 pins st σ H x y v u Q I rx ry h
def cOr (r s : List V → Hp → VK → Prop) : List V → Hp → VK → Prop := fun x H Q => r x H Q ∨ s x H Q
theorem callr_or {X : Cx} {f : Value} {r s : List V → Hp → VK → Prop} (h1 : CallR X f r) (h2 : CallR X f s) : CallR X f (cOr r s) := by
  intro pins st σ H xs us Q I rx h
  rcases h with h | h
  · exact h1 pins st σ H xs us Q I rx h
  · exact h2 pins st σ H xs us Q I rx h

/-! ### text * int -/
def rMulS : R2 := fun x y H Q => ∃ z n, x = .str z ∧ y = .int n ∧ MulOk z n ∧ Q (.str (Txt.mul z n)) H
theorem op_mulS {X : Cx} : OpR X (binaryOp .Mult) rMulS := by
  intro pins s σ H x y v u Q I rx ry h
  obtain ⟨z, n, rfl, rfl, ok, q⟩ := h
  obtain ⟨t, rfl⟩ := rx
  obtain ⟨t', rfl⟩ := ry
  exact SB.mul ok fun t2 k => ⟨.str _, H, I.tok k, ⟨_, rfl⟩, q⟩

def rAddS : R2 := fun x y H Q => ∃ i j, x = .str i ∧ y = .str j ∧ i.length + j.length ≤ sizeLine ∧ Q (.str (i ++ j)) H
def rAddI : R2 := rI0 fun i j => .int (i + j)
def gAdd : R2 := rOr rAddI (rOr rAddS rCat)
theorem q_add {X : Cx} : OpR X (binaryOp .Add) gAdd := opr_or op_add (opr_or op_add_str op_cat)
def rMulI : R2 := rI CMul fun i j => .int (i * j)
def gMul : R2 := rOr rMulI (rOr rMulS rRep)
theorem q_mul {X : Cx} : OpR X (binaryOp .Mult) gMul := opr_or op_mul (opr_or op_mulS op_rep)
def gMinus : R2 := rI0 fun i j => .int (i - j)
theorem q_sub {X : Cx} : OpR X (binaryOp .Sub) gMinus := op_sub
def gMod : R2 := rI (fun _ j => 0 < j) fun i j => .int (i % j)
theorem q_mod {X : Cx} : OpR X (binaryOp .Mod) gMod := op_mod
def gFdiv : R2 := rI CDiv fun i j => .int (i / j)
theorem q_fdiv {X : Cx} : OpR X (binaryOp .FloorDiv) gFdiv := op_fdiv
def gLt : R2 := rI0 fun i j => .bl (decide (i < j))
def gLe : R2 := rI0 fun i j => .bl (decide (i ≤ j))
def gGt : R2 := rI0 fun i j => .bl (decide (i > j))
def gGe : R2 := rI0 fun i j => .bl (decide (i ≥ j))
theorem q_lt {X : Cx} : OpR X (compareOp .Lt) gLt := op_lt
theorem q_le {X : Cx} : OpR X (compareOp .LtE) gLe := op_le
theorem q_gt {X : Cx} : OpR X (compareOp .Gt) gGt := op_gt
theorem q_ge {X : Cx} : OpR X (compareOp .GtE) gGe := op_ge
def gIs : R2 := fun x y H Q => y = .non ∧ Q (.bl (decide (x = .non))) H
def gIsNot : R2 := fun x y H Q => y = .non ∧ Q (.bl (!decide (x = .non))) H
theorem q_is {X : Cx} : OpR X (compareOp .Is) gIs := op_isN
theorem q_isnot {X : Cx} : OpR X (compareOp .IsNot) gIsNot := op_notN
def gEq (K : PySem.W.Frag) : R2 := rEqD K
def gNe (K : PySem.W.Frag) : R2 := rNeD K
theorem q_eq {X : Cx} (hu : X.A.units + 64 < cLine) : OpR X (compareOp .Eq) (gEq X.K) := op_eqD hu
theorem q_ne {X : Cx} (hu : X.A.units + 64 < cLine) : OpR X (compareOp .NotEq) (gNe X.K) := op_neD hu
def gInC : R2 := fun x y H Q => ∃ (c : Nat) (z : Str), x = .str ⟨#[c]⟩ ∧ y = .str z ∧ Q (.bl (decide (c ∈ z.cps.toList))) H
def gIn (K : PySem.W.Frag) : R2 := rOr gInC (rIn K false)
def gNotInC : R2 := fun x y H Q => ∃ (c : Nat) (z : Str), x = .str ⟨#[c]⟩ ∧ y = .str z ∧ Q (.bl (!decide (c ∈ z.cps.toList))) H
def gNotIn (K : PySem.W.Frag) : R2 := rOr gNotInC (rIn K true)
theorem q_in {X : Cx} : OpR X (compareOp .In) (gIn X.K) := opr_or op_in_sign op_in_seq
theorem q_notin {X : Cx} : OpR X (compareOp .NotIn) (gNotIn X.K) := opr_or op_notIn_sign op_notIn_seq
theorem hu64 {A : Around} {k : Nat} (hr : Room k A) : A.units + 64 < cLine := hr.units

/-! ### data -/
mutual
def toPy : D → Option PyData
  | .non => some .none
  | .bl b => some (.bool b)
  | .int i => some (.int i)
  | .str x => some (.str x)
  | .lst ds => (toPys ds).map .list
  | .tup ds => (toPys ds).map .tuple
  | .ins _ _ => none
  | .lam _ => none
  | .dk _ => none
  | .dt _ => none
  | .raw _ => none
def toPys : List D → Option (List PyData)
  | [] => some []
  | d :: ds => match toPy d, toPys ds with
    | some x, some xs => some (x :: xs)
    | _, _ => none
end
section
variable {K : PySem.W.Frag} {H : Hp}
mutual
theorem R.dp : ∀ (d : D) (v : V) (p : PyData), toPy d = some p → R K H d v → Dp K H v p
  | .non, v, p, e, h => by
    cases e
    rw [show v = .non from h]
    exact .non
  | .bl b, v, p, e, h => by
    cases e
    rw [show v = .bl b from h]
    exact .bl b
  | .int b, v, p, e, h => by
    cases e
    rw [show v = .int b from h]
    exact .int b
  | .str b, v, p, e, h => by
    cases e
    rw [show v = .str b from h]
    exact .str b
  | .lst ds, v, p, e, h => by
    obtain ⟨a, xs, rfl, h1, h2⟩ := h
    simp only [toPy] at e
    obtain ⟨ps, e1, rfl⟩ := Option.map_eq_some_iff.mp e
    exact .lst (.inl (.inl h1)) (RA.dp ds xs ps e1 h2)
  | .tup ds, v, p, e, h => by
    obtain ⟨a, xs, rfl, h1, h2⟩ := h
    simp only [toPy] at e
    obtain ⟨ps, e1, rfl⟩ := Option.map_eq_some_iff.mp e
    exact .tup h1 (RA.dp ds xs ps e1 h2)
  | .ins _ _, v, p, e, h => by simp [toPy] at e
  | .lam _, v, p, e, h => by simp [toPy] at e
  | .dk _, v, p, e, h => by simp [toPy] at e
  | .dt _, v, p, e, h => by simp [toPy] at e
  | .raw _, v, p, e, h => by simp [toPy] at e
theorem RA.dp : ∀ (ds : List D) (vs : List V) (ps : List PyData), toPys ds = some ps → RA K H ds vs → DpAll K H vs ps
  | [], vs, ps, e, h => by
    cases e
    rw [show vs = [] from h]
    exact .nil
  | d :: ds, vs, ps, e, h => by
    obtain ⟨v, r, rfl, h1, h2⟩ := h
    simp only [toPys] at e
    cases e1 : toPy d with
    | none => rw [e1] at e; cases e
    | some x =>
      cases e2 : toPys ds with
      | none => rw [e1, e2] at e; cases e
      | some xs =>
        rw [e1, e2] at e
        cases e
        exact .cons (R.dp d v x e1 h1) (RA.dp ds r xs e2 h2)
end
end
theorem but_grow {H : Hp} {M : List Addr} : Grow (but H M) H := fun a o e => (but_some e).2
theorem RB.here {K : PySem.W.Frag} {c : Fm} {O : List Addr} {H : Hp} {b : Bool} {d : D} {v : V} (h : RB K c O H b d v) : R K H d v := R.grow but_grow d v h
theorem RBA.here {K : PySem.W.Frag} {c : Fm} {O : List Addr} {H : Hp} {b : Bool} {d : List D} {v : List V} (h : RBA K c O H b d v) : RA K H d v := RA.grow but_grow d v h

def dEq : DR := fun x y P => match toPy x, toPy y with
  | some p, some q => (SeqAt.shaped p = true ∧ SeqAt.shaped q = true) ∧ P (.bl (PyData.eqv p q))
  | _, _ => False
def dNe : DR := fun x y P => match toPy x, toPy y with
  | some p, some q => (SeqAt.shaped p = true ∧ SeqAt.shaped q = true) ∧ P (.bl (!PyData.eqv p q))
  | _, _ => False
def dII (f : Int → Int → D) : DR
  | .int i, .int j, P => P (f i j)
  | _, _, _ => False
def dIC (C : Int → Int → Prop) (f : Int → Int → D) : DR
  | .int i, .int j, P => C i j ∧ P (f i j)
  | _, _, _ => False
def dAdd : DR
  | .int i, .int j, P => P (.int (i + j))
  | .str a, .str b, P => a.length + b.length ≤ sizeLine ∧ P (.str (a ++ b))
  | .lst a, .lst b, P => a.length + b.length ≤ sizeLine ∧ P (.lst (a ++ b))
  | _, _, _ => False
def dMul : DR
  | .int i, .int j, P => CMul i j ∧ P (.int (i * j))
  | .str a, .int n, P => MulOk a n ∧ P (.str (Txt.mul a n))
  | .lst a, .int n, P => (0 ≤ n ∧ n < 2 ^ 63 ∧ a.length * n.toNat ≤ sizeLine) ∧ P (.lst (List.replicate n.toNat a).flatten)
  | _, _, _ => False
theorem dEq_congr {x y x' y' : D} {P : D → Prop} (h : x = x') (h' : y = y') : dEq x y P = dEq x' y' P := by rw [h, h']
theorem dNe_congr {x y x' y' : D} {P : D → Prop} (h : x = x') (h' : y = y') : dNe x y P = dNe x' y' P := by rw [h, h']
theorem dII_congr {f : Int → Int → D} {x y x' y' : D} {P : D → Prop} (h : x = x') (h' : y = y') : dII f x y P = dII f x' y' P := by rw [h, h']
theorem dIC_congr {C : Int → Int → Prop} {f : Int → Int → D} {x y x' y' : D} {P : D → Prop} (h : x = x') (h' : y = y') : dIC C f x y P = dIC C f x' y' P := by rw [h, h']
theorem dAdd_congr {x y x' y' : D} {P : D → Prop} (h : x = x') (h' : y = y') : dAdd x y P = dAdd x' y' P := by rw [h, h']
theorem dMul_congr {x y x' y' : D} {P : D → Prop} (h : x = x') (h' : y = y') : dMul x y P = dMul x' y' P := by rw [h, h']
abbrev dSub : DR := dII fun i j => .int (i - j)
abbrev dMod : DR := dIC (fun _ j => 0 < j) fun i j => .int (i % j)
abbrev dFdiv : DR := dIC CDiv fun i j => .int (i / j)
abbrev dLt : DR := dII fun i j => .bl (decide (i < j))
abbrev dLe : DR := dII fun i j => .bl (decide (i ≤ j))
abbrev dGt : DR := dII fun i j => .bl (decide (i > j))
abbrev dGe : DR := dII fun i j => .bl (decide (i ≥ j))
def D.isNon : D → Option Bool
  | .non => some true
  | .raw _ => none
  | _ => some false
def dIs : DR
  | x, .non, P => optP x.isNon fun b => P (.bl b)
  | _, _, _ => False
def dIsNot : DR
  | x, .non, P => optP x.isNon fun b => P (.bl (!b))
  | _, _, _ => False
/-- flat data as flat values -/
def D.toV : D → Option V
  | .non => some .non
  | .bl b => some (.bl b)
  | .int i => some (.int i)
  | .str x => some (.str x)
  | _ => none
def toVs : List D → Option (List V)
  | [] => some []
  | d :: ds => match d.toV, toVs ds with
    | some x, some xs => some (x :: xs)
    | _, _ => none
def sign1 (s : Str) : Option Nat := match s.cps.toList with | [k] => some k | _ => none
theorem sign1_eq {s : Str} {k : Nat} (h : sign1 s = some k) : s = ⟨#[k]⟩ := by
  unfold sign1 at h
  split at h
  · rename_i e
    cases h
    obtain ⟨⟨l⟩⟩ := s
    rw [show l = [k] from e]
  · cases h
def D.sign : D → Option Nat
  | .str s => sign1 s
  | _ => none
theorem sign_of {K : PySem.W.Frag} {H : Hp} : ∀ {d : D} {v : V} {k : Nat}, d.sign = some k → R K H d v → v = .str ⟨#[k]⟩
  | .str s, v, k, e, r => by rw [← sign1_eq e]; exact r
  | .non, _, _, e, _ => by cases e
  | .bl _, _, _, e, _ => by cases e
  | .int _, _, _, e, _ => by cases e
  | .lst _, _, _, e, _ => by cases e
  | .tup _, _, _, e, _ => by cases e
  | .ins _ _, _, _, e, _ => by cases e
  | .lam _, _, _, e, _ => by cases e
  | .dk _, _, _, e, _ => by cases e
  | .dt _, _, _, e, _ => by cases e
  | .raw _, _, _, e, _ => by cases e
def inG (neg : Bool) (x : D) (ds : List D) : Option Bool := match x.toV, toVs ds with
  | some v, some vs => some (if neg then !inV v vs else inV v vs)
  | _, _ => none
def dInG (neg : Bool) : DR
  | x, .str z, P => optP x.sign fun ch => P (.bl (if neg then !decide (ch ∈ z.cps.toList) else decide (ch ∈ z.cps.toList)))
  | x, .lst ds, P => optP (inG neg x ds) fun b => P (.bl b)
  | x, .tup ds, P => optP (inG neg x ds) fun b => P (.bl b)
  | _, _, _ => False

section
variable {K : PySem.W.Frag} {c : Fm} {H0 : Hp}
theorem sr_II {f : Int → Int → D} {g : Int → Int → V} (hf : ∀ i j H, R K H (f i j) (g i j)) : SimR K c H0 (rI0 g) (dII f) := by
  intro x y P h O H Q v u b σ ρ rp rx ry q
  unfold dII at h
  split at h
  · exact ⟨_, _, rx, ry, q _ _ H h (Ex.refl H) rp.inv (hf _ _ _)⟩
  · exact h.elim
theorem sr_IC {C : Int → Int → Prop} {f : Int → Int → D} {g : Int → Int → V} (hf : ∀ i j H, R K H (f i j) (g i j)) : SimR K c H0 (rI C g) (dIC C f) := by
  intro x y P h O H Q v u b σ ρ rp rx ry q
  unfold dIC at h
  split at h
  · exact ⟨_, _, rx, ry, h.1, q _ _ H h.2 (Ex.refl H) rp.inv (hf _ _ _)⟩
  · exact h.elim
theorem sr_sub : SimR K c H0 gMinus dSub := sr_II fun _ _ _ => rfl
theorem sr_mod : SimR K c H0 gMod dMod := sr_IC fun _ _ _ => rfl
theorem sr_fdiv : SimR K c H0 gFdiv dFdiv := sr_IC fun _ _ _ => rfl
theorem sr_lt : SimR K c H0 gLt dLt := sr_II fun _ _ _ => rfl
theorem sr_le : SimR K c H0 gLe dLe := sr_II fun _ _ _ => rfl
theorem sr_gt : SimR K c H0 gGt dGt := sr_II fun _ _ _ => rfl
theorem sr_ge : SimR K c H0 gGe dGe := sr_II fun _ _ _ => rfl
theorem tracked_of {M : List Addr} {H : Hp} {a : Addr} {o : HO} (h : but H M a = some o) : H a = some o := (but_some h).2
theorem sr_new {b : Bool} {O : List Addr} {H : Hp} {σ : St} {ρ : DEnv} {ds : List D} {xs : List V} (rp : Rep K c H0 O H σ ρ) {p : Addr} (hp : H p = none) (ra : RBA K c O H b ds xs) :
    Ex c.S H (upd H p (.lst xs)) ∧ c.I (upd H p (.lst xs)) ∧ RB K c O (upd H p (.lst xs)) b (.lst ds) (.ref p) := by
  have hn := rp.new hp
  have ex : Ex c.S H (upd H p (.lst xs)) := Ex.new hp
  exact ⟨ex, c.st _ _ (Grow.new hp) rp.inv, p, xs, rfl, but_of (fun z => hn (mo_of z)) upd_same, ra.up ex⟩
theorem RA.flatten {H : Hp} {ds : List D} {xs : List V} (h : RA K H ds xs) : ∀ n : Nat, RA K H (List.replicate n ds).flatten (List.replicate n xs).flatten
  | 0 => rfl
  | n + 1 => by
    rw [List.replicate_succ, List.replicate_succ, List.flatten_cons, List.flatten_cons]
    exact h.app (RA.flatten h n)
theorem sr_add : SimR K c H0 gAdd dAdd := by
  intro x y P h O H Q v u b σ ρ rp rx ry q
  unfold dAdd at h
  split at h
  · exact .inl ⟨_, _, rx, ry, q _ _ H h (Ex.refl H) rp.inv rfl⟩
  · exact .inr (.inl ⟨_, _, rx, ry, h.1, q _ _ H h.2 (Ex.refl H) rp.inv rfl⟩)
  · obtain ⟨p, xs, e1, h1, h2⟩ := rx
    obtain ⟨p', ys, e2, h3, h4⟩ := ry
    refine .inr (.inr ⟨p, p', xs, ys, e1, e2, tracked_of h1, tracked_of h3, by rw [h2.length, h4.length]; exact h.1, fun l hl => ?_⟩)
    obtain ⟨z1, z2, z3⟩ := sr_new (b := b) rp hl (show RBA K c O H b _ (xs ++ ys) from h2.app h4)
    exact q _ _ _ h.2 z1 z2 z3
  · exact h.elim
theorem sr_mul : SimR K c H0 gMul dMul := by
  intro x y P h O H Q v u b σ ρ rp rx ry q
  unfold dMul at h
  split at h
  · exact .inl ⟨_, _, rx, ry, h.1, q _ _ H h.2 (Ex.refl H) rp.inv rfl⟩
  · exact .inr (.inl ⟨_, _, rx, ry, h.1, q _ _ H h.2 (Ex.refl H) rp.inv rfl⟩)
  · obtain ⟨p, xs, e1, h1, h2⟩ := rx
    refine .inr (.inr ⟨p, _, xs, e1, ry, tracked_of h1, by omega, h.1.2.1, by rw [h2.length]; exact h.1.2.2, fun l hl => ?_⟩)
    obtain ⟨z1, z2, z3⟩ := sr_new (b := b) rp hl (show RBA K c O H b _ _ from h2.flatten _)
    exact q _ _ _ h.2 z1 z2 z3
  · exact h.elim
theorem sr_eq : SimR K c H0 (gEq K) dEq := by
  intro x y P h O H Q v u b σ ρ rp rx ry q
  unfold dEq at h
  split at h
  · rename_i p p' e1 e2
    exact ⟨p, p', R.dp x v p e1 rx.here, R.dp y u p' e2 ry.here, h.1.1, h.1.2, q _ _ H h.2 (Ex.refl H) rp.inv rfl⟩
  · exact h.elim
theorem sr_ne : SimR K c H0 (gNe K) dNe := by
  intro x y P h O H Q v u b σ ρ rp rx ry q
  unfold dNe at h
  split at h
  · rename_i p p' e1 e2
    exact ⟨p, p', R.dp x v p e1 rx.here, R.dp y u p' e2 ry.here, h.1.1, h.1.2, q _ _ H h.2 (Ex.refl H) rp.inv rfl⟩
  · exact h.elim
theorem isNon_of {H : Hp} : ∀ {d : D} {v : V} {b : Bool}, d.isNon = some b → R K H d v → decide (v = .non) = b
  | .non, v, b, e, r => by cases e; rw [show v = .non from r]; rfl
  | .bl _, v, b, e, r => by cases e; rw [show v = .bl _ from r]; rfl
  | .int _, v, b, e, r => by cases e; rw [show v = .int _ from r]; rfl
  | .str _, v, b, e, r => by cases e; rw [show v = .str _ from r]; rfl
  | .lst _, v, b, e, r => by cases e; obtain ⟨a, _, e1, _⟩ := r; rw [e1]; rfl
  | .tup _, v, b, e, r => by cases e; obtain ⟨a, _, e1, _⟩ := r; rw [e1]; rfl
  | .ins _ _, v, b, e, r => by cases e; obtain ⟨a, _, _, e1, _⟩ := r; rw [e1]; rfl
  | .lam _, v, b, e, r => by cases e; obtain ⟨a, e1, _⟩ := r; rw [e1]; rfl
  | .dk _, v, b, e, r => by cases e; obtain ⟨a, _, e1, _⟩ := r; rw [e1]; rfl
  | .dt _, v, b, e, r => by cases e; obtain ⟨a, _, e1, _⟩ := r; rw [e1]; rfl
  | .raw _, v, b, e, r => by cases e
theorem sr_is : SimR K c H0 gIs dIs := by
  intro x y P h O H Q v u b σ ρ rp rx ry q
  unfold dIs at h
  split at h
  · obtain ⟨b', e, h⟩ := optP_some h
    refine ⟨ry, ?_⟩
    rw [isNon_of e rx]
    exact q _ _ H h (Ex.refl H) rp.inv rfl
  · exact h.elim
theorem sr_isnot : SimR K c H0 gIsNot dIsNot := by
  intro x y P h O H Q v u b σ ρ rp rx ry q
  unfold dIsNot at h
  split at h
  · obtain ⟨b', e, h⟩ := optP_some h
    refine ⟨ry, ?_⟩
    rw [isNon_of e rx]
    exact q _ _ H h (Ex.refl H) rp.inv rfl
  · exact h.elim
theorem toV_of {H : Hp} : ∀ {d : D} {v w : V}, d.toV = some w → R K H d v → v = w ∧ flatV w = true
  | .non, v, w, e, r => by cases e; exact ⟨r, rfl⟩
  | .bl _, v, w, e, r => by cases e; exact ⟨r, rfl⟩
  | .int _, v, w, e, r => by cases e; exact ⟨r, rfl⟩
  | .str _, v, w, e, r => by cases e; exact ⟨r, rfl⟩
  | .lst _, v, w, e, r => by cases e
  | .tup _, v, w, e, r => by cases e
  | .ins _ _, v, w, e, r => by cases e
  | .lam _, v, w, e, r => by cases e
  | .dk _, v, w, e, r => by cases e
  | .dt _, v, w, e, r => by cases e
  | .raw _, v, w, e, r => by cases e
theorem toVs_of {H : Hp} : ∀ {ds : List D} {vs ws : List V}, toVs ds = some ws → RA K H ds vs → vs = ws ∧ ws.all flatV = true
  | [], vs, ws, e, r => by cases e; exact ⟨r, rfl⟩
  | d :: ds, vs, ws, e, r => by
    obtain ⟨v, r', rfl, h1, h2⟩ := r
    simp only [toVs] at e
    cases e1 : d.toV with
    | none => rw [e1] at e; cases e
    | some x =>
      cases e2 : toVs ds with
      | none => rw [e1, e2] at e; cases e
      | some xs =>
        rw [e1, e2] at e
        cases e
        obtain ⟨z1, z2⟩ := toV_of e1 h1
        obtain ⟨z3, z4⟩ := toVs_of e2 h2
        rw [z1, z3]
        exact ⟨rfl, by rw [List.all_cons, z2, z4]; rfl⟩
theorem sr_in0 {neg : Bool} {x : D} {ds : List D} {P : D → Prop} (h : optP (inG neg x ds) fun b => P (.bl b)) {O : List Addr} {H : Hp} {Q : VK} {v : V} {b : Bool} {σ : St} {ρ : DEnv} (rp : Rep K c H0 O H σ ρ) (rx : RB K c O H b x v) {p : Addr} {xs : List V} (hp : SqL K H p xs ∨ SqT K H p xs) (ra : RA K H ds xs)
    (q : ∀ z w H', P z → Ex c.S H H' → c.I H' → RB K c O H' b z w → Q w H') : rIn K neg v (.ref p) H Q := by
  obtain ⟨r, e, h⟩ := optP_some h
  unfold inG at e
  split at e
  · rename_i w ws e1 e2
    cases e
    obtain ⟨z1, z2⟩ := toV_of e1 rx
    obtain ⟨z3, z4⟩ := toVs_of e2 ra
    rw [z1]
    rw [z3] at hp
    exact ⟨p, ws, rfl, hp, z2, z4, q _ _ H h (Ex.refl H) rp.inv rfl⟩
  · cases e
theorem sr_in : SimR K c H0 (gIn K) (dInG false) := by
  intro x y P h O H Q v u b σ ρ rp rx ry q
  unfold dInG at h
  split at h
  · obtain ⟨ch, e, h⟩ := optP_some h
    exact .inl ⟨_, _, sign_of e rx, ry, q _ _ H h (Ex.refl H) rp.inv rfl⟩
  · obtain ⟨p, xs, rfl, h1, h2⟩ := ry.here
    exact .inr (sr_in0 (neg := false) h rp rx (.inl (.inl (.inl h1))) h2 q)
  · obtain ⟨p, xs, rfl, h1, h2⟩ := ry.here
    exact .inr (sr_in0 (neg := false) h rp rx (.inr h1) h2 q)
  · exact h.elim
theorem sr_notin : SimR K c H0 (gNotIn K) (dInG true) := by
  intro x y P h O H Q v u b σ ρ rp rx ry q
  unfold dInG at h
  split at h
  · obtain ⟨ch, e, h⟩ := optP_some h
    exact .inl ⟨_, _, sign_of e rx, ry, q _ _ H h (Ex.refl H) rp.inv rfl⟩
  · obtain ⟨p, xs, rfl, h1, h2⟩ := ry.here
    exact .inr (sr_in0 (neg := true) h rp rx (.inl (.inl (.inl h1))) h2 q)
  · obtain ⟨p, xs, rfl, h1, h2⟩ := ry.here
    exact .inr (sr_in0 (neg := true) h rp rx (.inr h1) h2 q)
  · exact h.elim
end
end QD

/-! QD4: built-ins, items, slices, chains, comprehensions, loops, calls by data. -/
namespace QD
open PySem L2

/-! ### terms for readings that HandS leaves without a name -/
def rLen (K : PySem.W.Frag) : List V → Hp → VK → Prop := fun as G Q => ∃ a k, as = [a] ∧ LenV K a G k ∧ Q (.int k) G
theorem q_len {X : Cx} : CallR X (.builtin "len") (rLen X.K) := call_len
def rInt1 : List V → Hp → VK → Prop := fun xs H Q => (∃ i, xs = [.int i] ∧ Q (.int i) H) ∨ ∃ k, xs = [.bl k] ∧ Q (.int (if k then 1 else 0)) H
theorem q_int1 {X : Cx} : CallR X (.type "int") rInt1 := call_int1
def rAbs : List V → Hp → VK → Prop := fun xs H Q => ∃ i, xs = [.int i] ∧ Q (.int (if i < 0 then -i else i)) H
theorem q_abs {X : Cx} : CallR X (.builtin "abs") rAbs := call_abs
def rListOf (K : PySem.W.Frag) : List V → Hp → VK → Prop := fun xs H Q => ∃ p ys, xs = [.ref p] ∧ (SqL K H p ys ∨ SqT K H p ys) ∧ ∀ l, H l = none → Q (.ref l) (upd H l (.lst ys))
theorem q_listOf {X : Cx} : CallR X (.type "list") (rListOf X.K) := call_list_of
def rTupOf (K : PySem.W.Frag) : List V → Hp → VK → Prop := fun xs H Q => ∃ p ys, xs = [.ref p] ∧ ((SqL K H p ys ∧ ∀ l, H l = none → Q (.ref l) (upd H l (.tup ys))) ∨ (SqT K H p ys ∧ Q (.ref p) H))
theorem q_tupOf {X : Cx} : CallR X (.type "tuple") (rTupOf X.K) := call_tuple_of
def rMax2 : List V → Hp → VK → Prop := fun as G Q => ∃ m n, as = [.int m, .int n] ∧ Q (.int (if n > m then n else m)) G
theorem q_max2 {X : Cx} (hc : X.calm = true) : CallR X (.builtin "max") rMax2 := call_max2 hc
def rMin2 : List V → Hp → VK → Prop := fun xs H Q => ∃ i j, xs = [.int i, .int j] ∧ Q (.int (if j < i then j else i)) H
theorem q_min2 {X : Cx} (hc : X.calm = true) : CallR X (.builtin "min") rMin2 := call_min2 hc
def rSplit : V → List V → Hp → VK → Prop := fun x xs H Q => ∃ a b, x = .str a ∧ xs = [.str b] ∧ (b.length == 0) = false ∧ a.length + 2 ≤ sizeLine ∧ rNewStrs (Txt.split a b) H Q
def rJoin (K : PySem.W.Frag) : V → List V → Hp → VK → Prop := fun x xs H Q => ∃ a p, ∃ ys : List Str, x = .str a ∧ xs = [.ref p] ∧ (SqL K H p (ys.map V.str) ∨ SqT K H p (ys.map V.str)) ∧
    (ys.map (·.length)).sum + ys.length * a.length ≤ 16777216 ∧ Q (.str (Txt.join a ys)) H
section
variable {X : Cx} {to te : TE} {o e : Expr}
theorem q_split {apos pos : Pos} (ho : PE X o to) (he : PE X e te) (hs : starEach [e] X.env = [(false, eval e X.env)] := by rfl) (hbase : attributeBase o "split" X.env (eval o X.env) = eval o X.env := by rfl) (hline : (apos.endLine == pos.line) = true := by rfl) :
    PE X (.Call (.Attribute o "split" apos) [e] [] pos) (tM1 rSplit to te) := pe_split ho he hs hbase hline
theorem q_join {apos pos : Pos} (ho : PE X o to) (he : PE X e te) (hs : starEach [e] X.env = [(false, eval e X.env)] := by rfl) (hbase : attributeBase o "join" X.env (eval o X.env) = eval o X.env := by rfl) (hline : (apos.endLine == pos.line) = true := by rfl) :
    PE X (.Call (.Attribute o "join" apos) [e] [] pos) (tM1 (rJoin X.K) to te) := pe_join ho he hs hbase hline
end
def gIx (K : PySem.W.Frag) : R2 := rIx K
theorem q_ix {X : Cx} : IxR X (gIx X.K) := ix_seq
def gSl (K : PySem.W.Frag) : V → Option Int → Option Int → Hp → VK → Prop := fun x lo hi H Q => rSlL K x lo hi H Q ∨ rSlS x lo hi H Q
theorem q_sl {X : Cx} : SlR X (gSl X.K) := sl_list.or sl_str

/-! ### data -/
def tyName : D → Option String
  | .non => some "NoneType"
  | .bl _ => some "bool"
  | .int _ => some "int"
  | .str _ => some "str"
  | .lst _ => some "list"
  | .tup _ => some "tuple"
  | _ => none
/-- isinstance against a built-in class, by the names -/
def isTy (a b : String) : Option Bool := kitB a b
def isD (d : D) (n : String) : Option Bool := (tyName d).bind fun a => isTy a n
def isD2 (d : D) (n m : String) : Option Bool := match isD d n, isD d m with
  | some b, some b' => some (b || b')
  | _, _ => none
def dIsi : DC
  | [d, .raw (.ty n)], P => optP (isD d n) fun b => P (.bl b)
  | _, _ => False
def dIsi2 (n m : String) : DU := fun d P => optP (isD2 d n m) fun b => P (.bl b)
def lenD : D → Option Nat
  | .str x => some x.length
  | .lst ds => some ds.length
  | .tup ds => some ds.length
  | _ => none
def dLen1 : DU
  | .str x, P => x.length ≤ sizeLine ∧ P (.int x.length)
  | .lst ds, P => P (.int ds.length)
  | .tup ds, P => P (.int ds.length)
  | _, _ => False
def dLen : DC
  | [d], P => dLen1 d P
  | _, _ => False
def dInt1 : DC
  | [.int i], P => P (.int i)
  | [.bl k], P => P (.int (if k then 1 else 0))
  | _, _ => False
def dAbs : DC
  | [.int i], P => P (.int (if i < 0 then -i else i))
  | _, _ => False
def dMax2 : DC
  | [.int i, .int j], P => P (.int (if j > i then j else i))
  | _, _ => False
def dMin2 : DC
  | [.int i, .int j], P => P (.int (if j < i then j else i))
  | _, _ => False
def dListOf : DC
  | [.lst ds], P => P (.lst ds)
  | [.tup ds], P => P (.lst ds)
  | _, _ => False
def dTupOf : DC
  | [.lst ds], P => P (.tup ds)
  | [.tup ds], P => P (.tup ds)
  | _, _ => False
def asBls : List D → Option (List Bool)
  | [] => some []
  | .bl b :: ds => (asBls ds).map (b :: ·)
  | _ => none
def asStrs : List D → Option (List Str)
  | [] => some []
  | .str b :: ds => (asStrs ds).map (b :: ·)
  | _ => none
def dAll : DC
  | [.lst ds], P => optP (asBls ds) fun bs => P (.bl (bs.all id))
  | _, _ => False
def dAny : DC
  | [.lst ds], P => optP (asBls ds) fun bs => P (.bl (bs.any id))
  | _, _ => False
/-- an item, an index -/
def dIx : DR
  | .lst ds, .int i, P => optP (atI ds i) P
  | .tup ds, .int i, P => optP (atI ds i) P
  | .str z, .int i, P => z.length ≤ sizeLine ∧ optP (atI z.cps.toList i) fun k => P (.str ⟨#[k]⟩)
  | _, _, _ => False
def cutD (xs : List D) (lo hi : Option Int) : List D := (xs.drop (HT.sIx xs.length 0 lo)).take (HT.sIx xs.length xs.length hi - HT.sIx xs.length 0 lo)
abbrev DO := DEnv → (Option Int → Prop) → Prop
def dNoPart : DO := fun _ P => P none
def dPart (e : DE) : DO := fun ρ P => e ρ fun d _ => asInt d fun i => P (some i)
def slD : D → Bool → Option Int → Option Int → (D → Bool → Prop) → Prop
  | .lst ds, b, l, u, P => P (.lst (cutD ds l u)) b
  | .str z, _, l, u, P => z.length ≤ sizeLine ∧ P (.str (cutS z l u)) false
  | _, _, _, _, _ => False
def dSl (e : DE) (lo hi : DO) : DE := fun ρ P => e ρ fun x b => lo ρ fun l => hi ρ fun u => slD x b l u P
def dChain (r r' : DR) (da db dc : DE) : DE := fun ρ P => da ρ fun x b => db ρ fun y b' => r x y fun z => asBl z fun k =>
  if k = true then dc ρ fun w b'' => r' y w fun z => P z (dirt z (b' || b'')) else P (.bl false) false
def dSplit (e s : DE) : DE := fun ρ P => e ρ fun x _ => asStr x fun a => s ρ fun y _ => asStr y fun b =>
  ((b.length == 0) = false ∧ a.length + 2 ≤ sizeLine) ∧ P (.lst ((Txt.split a b).map D.str)) false
def D.items : D → Option (List D)
  | .lst ds => some ds
  | .tup ds => some ds
  | _ => none
def strsOf (d : D) : Option (List Str) := d.items.bind asStrs
def dJoin (e s : DE) : DE := fun ρ P => e ρ fun x _ => asStr x fun a => s ρ fun y _ => optP (strsOf y) fun ys =>
  (ys.map (·.length)).sum + ys.length * a.length ≤ 16777216 ∧ P (.str (Txt.join a ys)) false
theorem dIsi_congr {xs ys : List D} {P : D → Prop} (h : xs = ys) : dIsi xs P = dIsi ys P := by rw [h]
theorem dLen1_congr {xs ys : D} {P : D → Prop} (h : xs = ys) : dLen1 xs P = dLen1 ys P := by rw [h]
theorem dLen_congr {xs ys : List D} {P : D → Prop} (h : xs = ys) : dLen xs P = dLen ys P := by rw [h]
theorem dInt1_congr {xs ys : List D} {P : D → Prop} (h : xs = ys) : dInt1 xs P = dInt1 ys P := by rw [h]
theorem dAbs_congr {xs ys : List D} {P : D → Prop} (h : xs = ys) : dAbs xs P = dAbs ys P := by rw [h]
theorem dMax2_congr {xs ys : List D} {P : D → Prop} (h : xs = ys) : dMax2 xs P = dMax2 ys P := by rw [h]
theorem dMin2_congr {xs ys : List D} {P : D → Prop} (h : xs = ys) : dMin2 xs P = dMin2 ys P := by rw [h]
theorem dListOf_congr {xs ys : List D} {P : D → Prop} (h : xs = ys) : dListOf xs P = dListOf ys P := by rw [h]
theorem dTupOf_congr {xs ys : List D} {P : D → Prop} (h : xs = ys) : dTupOf xs P = dTupOf ys P := by rw [h]
theorem dAll_congr {xs ys : List D} {P : D → Prop} (h : xs = ys) : dAll xs P = dAll ys P := by rw [h]
theorem dAny_congr {xs ys : List D} {P : D → Prop} (h : xs = ys) : dAny xs P = dAny ys P := by rw [h]
theorem dIx_congr {x y x' y' : D} {P : D → Prop} (h : x = x') (h' : y = y') : dIx x y P = dIx x' y' P := by rw [h, h']
theorem slD_congr {x x' : D} {b : Bool} {l u : Option Int} {P : D → Bool → Prop} (h : x = x') : slD x b l u P = slD x' b l u P := by rw [h]

theorem asBls_eq : ∀ {ds : List D} {bs : List Bool}, asBls ds = some bs → ds = bs.map D.bl
  | [], bs, h => by cases h; rfl
  | .bl b :: ds, bs, h => by
    simp only [asBls] at h
    obtain ⟨cs, e, rfl⟩ := Option.map_eq_some_iff.mp h
    rw [asBls_eq e]; rfl
  | .non :: _, _, h => by simp [asBls] at h
  | .int _ :: _, _, h => by simp [asBls] at h
  | .str _ :: _, _, h => by simp [asBls] at h
  | .lst _ :: _, _, h => by simp [asBls] at h
  | .tup _ :: _, _, h => by simp [asBls] at h
  | .ins _ _ :: _, _, h => by simp [asBls] at h
  | .lam _ :: _, _, h => by simp [asBls] at h
  | .dk _ :: _, _, h => by simp [asBls] at h
  | .dt _ :: _, _, h => by simp [asBls] at h
  | .raw _ :: _, _, h => by simp [asBls] at h
theorem asStrs_eq : ∀ {ds : List D} {bs : List Str}, asStrs ds = some bs → ds = bs.map D.str
  | [], bs, h => by cases h; rfl
  | .str b :: ds, bs, h => by
    simp only [asStrs] at h
    obtain ⟨cs, e, rfl⟩ := Option.map_eq_some_iff.mp h
    rw [asStrs_eq e]; rfl
  | .non :: _, _, h => by simp [asStrs] at h
  | .int _ :: _, _, h => by simp [asStrs] at h
  | .bl _ :: _, _, h => by simp [asStrs] at h
  | .lst _ :: _, _, h => by simp [asStrs] at h
  | .tup _ :: _, _, h => by simp [asStrs] at h
  | .ins _ _ :: _, _, h => by simp [asStrs] at h
  | .lam _ :: _, _, h => by simp [asStrs] at h
  | .dk _ :: _, _, h => by simp [asStrs] at h
  | .dt _ :: _, _, h => by simp [asStrs] at h
  | .raw _ :: _, _, h => by simp [asStrs] at h
theorem asBls_map (bs : List Bool) : asBls (bs.map D.bl) = some bs := by
  induction bs with
  | nil => rfl
  | cons b r ih => simp only [List.map_cons, asBls, ih, Option.map_some]
theorem asStrs_map (bs : List Str) : asStrs (bs.map D.str) = some bs := by
  induction bs with
  | nil => rfl
  | cons b r ih => simp only [List.map_cons, asStrs, ih, Option.map_some]

section
variable {K : PySem.W.Frag} {c : Fm} {H0 : Hp} {ta tb te tc : TE} {da db de dc : DE}
theorem ty_of {H : Hp} : ∀ {d : D} {v : V} {n : String}, tyName d = some n → R K H d v → TyX K H v (.type n)
  | .non, v, n, e, r => by cases e; rw [show v = .non from r]; exact .base .non
  | .bl b, v, n, e, r => by cases e; rw [show v = .bl b from r]; exact .base (.bl b)
  | .int b, v, n, e, r => by cases e; rw [show v = .int b from r]; exact .base (.int b)
  | .str b, v, n, e, r => by cases e; rw [show v = .str b from r]; exact .base (.str b)
  | .lst ds, v, n, e, r => by
    cases e
    obtain ⟨a, xs, rfl, h1, h2⟩ := r
    exact .base (.lst h1)
  | .tup ds, v, n, e, r => by
    cases e
    obtain ⟨a, xs, rfl, h1, h2⟩ := r
    rcases h1 with (h | ⟨o, h⟩) | ⟨o, its, n, h, hc, _⟩
    · exact .base (.tup h)
    · exact .fTuple h
    · exact .kTuple h hc
  | .ins _ _, v, n, e, r => by cases e
  | .lam _, v, n, e, r => by cases e
  | .dk _, v, n, e, r => by cases e
  | .dt _, v, n, e, r => by cases e
  | .raw _, v, n, e, r => by cases e
theorem sc_isi : SimC K c H0 (rIsi K) dIsi := by
  intro xs P h O H Q vs b σ ρ rp rx q
  unfold dIsi at h
  split at h
  · rename_i d n
    obtain ⟨b', e, h⟩ := optP_some h
    obtain ⟨a, e1, e2⟩ := Option.bind_eq_some_iff.mp e
    obtain ⟨v, r, rfl, h1, v2, r2, rfl, h2, h3⟩ := rx.here
    rw [show r2 = [] from h3, show v2 = V.ty n from h2]
    exact ⟨v, .ty n, _, _, b', rfl, .ty n, ty_of e1 h1, kit_ty e2, q _ _ H h (Ex.refl H) rp.inv rfl⟩
  · exact h.elim
theorem sim_isi2 {n m : String} (ha : SimE K c H0 ta da) : SimE K c H0 (tCB (rIsiT K) (tCons ta (tCons (tTup (tCons (tC (.ty n)) (tCons (tC (.ty m)) tNil))) tNil))) (dUn (dIsi2 n m) da) := by
  intro ρ P h O σ H Q rp q
  refine ha ρ _ h O σ H _ rp fun v x b H1 h1 rp1 e1 rx => ?_
  refine ⟨by show 2 ≤ sizeLine; decide, fun p hp => ?_⟩
  have ex : Ex c.S H1 (upd H1 p (.tup [.ty n, .ty m])) := Ex.new hp
  obtain ⟨b', e, h1⟩ := optP_some h1
  unfold isD2 at e
  split at e
  · rename_i b1 b2 z1 z2
    cases e
    obtain ⟨a, y1, y2⟩ := Option.bind_eq_some_iff.mp z1
    obtain ⟨a', y3, y4⟩ := Option.bind_eq_some_iff.mp z2
    rw [y1] at y3
    cases y3
    refine ⟨v, p, _, _, [.type n, .type m], (b1 || b2), rfl, upd_same, .cons (.ty n) (.cons (.ty m) .nil), ty_of y1 (rx.up ex).here, ?_, q _ _ _ _ h1 (rp1.up ex (c.st _ _ (Grow.new hp) rp1.inv)) (e1.trans ex) rfl⟩
    refine kitAny_cons (kit_ty y2) (fun e => ?_) (fun e => by rw [e]; rfl)
    subst e
    refine kitAny_cons (kit_ty y4) (fun e => ?_) (fun e => by rw [e]; rfl)
    rw [e]
    rfl
  · cases e
theorem sc_len : SimC K c H0 (rLen K) dLen := by
  intro xs P h O H Q vs b σ ρ rp rx q
  unfold dLen at h
  split at h
  · rename_i d
    obtain ⟨v, r, rfl, h1, h2⟩ := rx.here
    rw [show r = [] from h2]
    cases d with
    | str x => rw [show v = .str x from h1]; exact ⟨_, _, rfl, ⟨h.1, rfl⟩, q _ _ H h.2 (Ex.refl H) rp.inv rfl⟩
    | lst ds =>
      obtain ⟨a, ys, rfl, h3, h4⟩ := h1
      refine ⟨_, ys.length, rfl, .inl ⟨ys, .inl (.inl h3), rfl⟩, ?_⟩
      rw [h4.length]
      exact q _ _ H h (Ex.refl H) rp.inv rfl
    | tup ds =>
      obtain ⟨a, ys, rfl, h3, h4⟩ := h1
      refine ⟨_, ys.length, rfl, .inr ⟨ys, h3, rfl⟩, ?_⟩
      rw [h4.length]
      exact q _ _ H h (Ex.refl H) rp.inv rfl
    | non => exact h.elim
    | bl _ => exact h.elim
    | int _ => exact h.elim
    | ins _ _ => exact h.elim
    | lam _ => exact h.elim
    | dk _ => exact h.elim
    | dt _ => exact h.elim
    | raw _ => exact h.elim
  · exact h.elim
theorem sc_int1 : SimC K c H0 rInt1 dInt1 := by
  intro xs P h O H Q vs b σ ρ rp rx q
  unfold dInt1 at h
  split at h
  · obtain ⟨v, r, rfl, h1, h2⟩ := rx.here
    rw [show r = [] from h2, show v = .int _ from h1]
    exact .inl ⟨_, rfl, q _ _ H h (Ex.refl H) rp.inv rfl⟩
  · obtain ⟨v, r, rfl, h1, h2⟩ := rx.here
    rw [show r = [] from h2, show v = .bl _ from h1]
    exact .inr ⟨_, rfl, q _ _ H h (Ex.refl H) rp.inv rfl⟩
  · exact h.elim
theorem sc_abs : SimC K c H0 rAbs dAbs := by
  intro xs P h O H Q vs b σ ρ rp rx q
  unfold dAbs at h
  split at h
  · obtain ⟨v, r, rfl, h1, h2⟩ := rx.here
    rw [show r = [] from h2, show v = .int _ from h1]
    exact ⟨_, rfl, q _ _ H h (Ex.refl H) rp.inv rfl⟩
  · exact h.elim
theorem sc_max2 : SimC K c H0 rMax2 dMax2 := by
  intro xs P h O H Q vs b σ ρ rp rx q
  unfold dMax2 at h
  split at h
  · obtain ⟨v, r, rfl, h1, v2, r2, rfl, h2, h3⟩ := rx.here
    rw [show r2 = [] from h3, show v = .int _ from h1, show v2 = .int _ from h2]
    exact ⟨_, _, rfl, q _ _ H h (Ex.refl H) rp.inv rfl⟩
  · exact h.elim
theorem sc_min2 : SimC K c H0 rMin2 dMin2 := by
  intro xs P h O H Q vs b σ ρ rp rx q
  unfold dMin2 at h
  split at h
  · obtain ⟨v, r, rfl, h1, v2, r2, rfl, h2, h3⟩ := rx.here
    rw [show r2 = [] from h3, show v = .int _ from h1, show v2 = .int _ from h2]
    exact ⟨_, _, rfl, q _ _ H h (Ex.refl H) rp.inv rfl⟩
  · exact h.elim
theorem sc_listOf : SimC K c H0 (rListOf K) dListOf := by
  intro xs P h O H Q vs b σ ρ rp rx q
  unfold dListOf at h
  split at h
  · obtain ⟨v, r, rfl, ⟨a, ys, rfl, h3, h4⟩, h2⟩ := id rx
    rw [show r = [] from h2]
    refine ⟨a, ys, rfl, .inl (.inl (.inl (tracked_of h3))), fun l hl => ?_⟩
    obtain ⟨z1, z2, z3⟩ := sr_new (b := b) rp hl h4
    exact q _ _ _ h z1 z2 z3
  · obtain ⟨v, r, rfl, ⟨a, ys, rfl, h3, h4⟩, h2⟩ := id rx
    rw [show r = [] from h2]
    refine ⟨a, ys, rfl, .inr (grow_t but_grow h3), fun l hl => ?_⟩
    obtain ⟨z1, z2, z3⟩ := sr_new (b := b) rp hl h4
    exact q _ _ _ h z1 z2 z3
  · exact h.elim
theorem sc_tupOf : SimC K c H0 (rTupOf K) dTupOf := by
  intro xs P h O H Q vs b σ ρ rp rx q
  unfold dTupOf at h
  split at h
  · obtain ⟨v, r, rfl, ⟨a, ys, rfl, h3, h4⟩, h2⟩ := id rx
    rw [show r = [] from h2]
    refine ⟨a, ys, rfl, .inl ⟨.inl (.inl (tracked_of h3)), fun l hl => ?_⟩⟩
    have hn := rp.new hl
    have ex : Ex c.S H (upd H l (.tup ys)) := Ex.new hl
    exact q _ _ _ h ex (c.st _ _ (Grow.new hl) rp.inv) ⟨l, ys, rfl, .inl (.inl (but_of (fun z => hn (mo_of z)) upd_same)), RBA.up ex h4⟩
  · obtain ⟨v, r, rfl, h1, h2⟩ := id rx
    obtain ⟨a, ys, e1, h3, h4⟩ := id h1
    rw [show r = [] from h2, e1]
    refine ⟨a, ys, rfl, .inr ⟨grow_t but_grow h3, ?_⟩⟩
    rw [← e1]
    exact q _ _ _ h (Ex.refl H) rp.inv h1
  · exact h.elim
theorem sc_all : SimC K c H0 (rAll K) dAll := by
  intro xs P h O H Q vs b σ ρ rp rx q
  unfold dAll at h
  split at h
  · obtain ⟨bs, e, h⟩ := optP_some h
    obtain ⟨v, r, rfl, ⟨a, ys, rfl, h3, h4⟩, h2⟩ := rx.here
    rw [show r = [] from h2]
    rw [asBls_eq e] at h4
    rw [h4.bls] at h3
    exact ⟨a, bs, rfl, .inl (.inl h3), q _ _ H h (Ex.refl H) rp.inv rfl⟩
  · exact h.elim
theorem sc_any : SimC K c H0 (rAny K) dAny := by
  intro xs P h O H Q vs b σ ρ rp rx q
  unfold dAny at h
  split at h
  · obtain ⟨bs, e, h⟩ := optP_some h
    obtain ⟨v, r, rfl, ⟨a, ys, rfl, h3, h4⟩, h2⟩ := rx.here
    rw [show r = [] from h2]
    rw [asBls_eq e] at h4
    rw [h4.bls] at h3
    exact ⟨a, bs, rfl, .inl (.inl h3), q _ _ H h (Ex.refl H) rp.inv rfl⟩
  · exact h.elim
theorem atI_ra {H : Hp} {ds : List D} {vs : List V} {i : Int} {d : D} (h : RA K H ds vs) (e : atI ds i = some d) : ∃ v, atI vs i = some v ∧ R K H d v := by
  unfold atI at e ⊢
  obtain ⟨j, e1, e2⟩ := Option.bind_eq_some_iff.mp e
  obtain ⟨v, h1, h2⟩ := h.get' e2
  exact ⟨v, by rw [h.length, e1]; exact h1, h2⟩
theorem sr_ix : SimR K c H0 (gIx K) dIx := by
  intro x y P h O H Q v u b σ ρ rp rx ry q
  unfold dIx at h
  split at h
  · obtain ⟨d, e, h⟩ := optP_some h
    obtain ⟨p, xs, rfl, h1, h2⟩ := id rx
    obtain ⟨w, e1, h3⟩ := atI_ra h2 e
    exact .inl ⟨p, xs, _, w, rfl, ry, .inl (.inl (tracked_of h1)), e1, q _ _ H h (Ex.refl H) rp.inv h3⟩
  · obtain ⟨d, e, h⟩ := optP_some h
    obtain ⟨p, xs, rfl, h1, h2⟩ := id rx
    obtain ⟨w, e1, h3⟩ := atI_ra h2 e
    exact .inr (.inl ⟨p, xs, _, w, rfl, ry, grow_t but_grow h1, e1, q _ _ H h (Ex.refl H) rp.inv h3⟩)
  · obtain ⟨z, h⟩ := h
    obtain ⟨k, e, h⟩ := optP_some h
    exact .inr (.inr ⟨_, _, _, rx, ry, z, e, q _ _ H h (Ex.refl H) rp.inv rfl⟩)
  · exact h.elim
def SimO (K : PySem.W.Frag) (c : Fm) (H0 : Hp) (to : TO) (d : DO) : Prop := ∀ ρ P, d ρ P → ∀ O σ H Q, Rep K c H0 O H σ ρ → (∀ i H', P i → Rep K c H0 O H' σ ρ → Ex c.S H H' → Q i H') → to σ H Q
theorem sim_noPart : SimO K c H0 tNoPart dNoPart := fun ρ P h O σ H Q rp q => q none H h rp (Ex.refl H)
theorem rb_int {K : PySem.W.Frag} {H : Hp} {v : V} : ∀ {d : D} {P : Int → Prop}, R K H d v → asInt d P → ∃ k, d = .int k ∧ v = .int k ∧ P k
  | .int k, _, r, h => ⟨k, rfl, r, h⟩
  | .non, _, _, h => h.elim
  | .str _, _, _, h => h.elim
  | .bl _, _, _, h => h.elim
  | .lst _, _, _, h => h.elim
  | .tup _, _, _, h => h.elim
  | .ins _ _, _, _, h => h.elim
  | .lam _, _, _, h => h.elim
  | .dk _, _, _, h => h.elim
  | .dt _, _, _, h => h.elim
  | .raw _, _, _, h => h.elim
theorem sim_part (ha : SimE K c H0 ta da) : SimO K c H0 (tPart ta) (dPart da) := by
  intro ρ P h O σ H Q rp q
  refine ha ρ _ h O σ H _ rp fun v x b H1 h1 rp1 e1 rx => ?_
  obtain ⟨i, _, rfl, h1⟩ := rb_int rx h1
  exact ⟨i, rfl, q _ H1 h1 rp1 e1⟩
theorem RA.cut {H : Hp} {ds : List D} {vs : List V} (h : RA K H ds vs) (lo hi : Option Int) : RA K H (cutD ds lo hi) (cutV vs lo hi) := by
  unfold cutD cutV
  rw [h.length]
  exact (h.drop _).take _
theorem sim_sl {tl th : TO} {dl dh : DO} (ha : SimE K c H0 ta da) (hl : SimO K c H0 tl dl) (hh : SimO K c H0 th dh) : SimE K c H0 (tSl (gSl K) ta tl th) (dSl da dl dh) := by
  intro ρ P h O σ H Q rp q
  refine ha ρ _ h O σ H _ rp fun v x b H1 h1 rp1 e1 rx => ?_
  refine hl ρ _ h1 O σ H1 _ rp1 fun l H2 h2 rp2 e2 => ?_
  refine hh ρ _ h2 O σ H2 _ rp2 fun u H3 h3 rp3 e3 => ?_
  have rx3 := (rx.up e2).up e3
  have e13 := (e1.trans e2).trans e3
  cases x with
  | lst ds =>
    obtain ⟨p, xs, rfl, g1, g2⟩ := id rx3
    refine .inl ⟨p, xs, rfl, .inl (.inl (tracked_of g1)), fun p' hp => ?_⟩
    obtain ⟨z1, z2, z3⟩ := sr_new (b := b) rp3 hp (show RBA K c O H3 b _ _ from g2.cut l u)
    exact q _ _ _ _ h3 (rp3.up z1 z2) (e13.trans z1) z3
  | str z => exact .inr ⟨z, rx3, h3.1, q _ _ _ H3 h3.2 rp3 e13 rfl⟩
  | non => exact h3.elim
  | bl _ => exact h3.elim
  | int _ => exact h3.elim
  | tup _ => exact h3.elim
  | ins _ _ => exact h3.elim
  | lam _ => exact h3.elim
  | dk _ => exact h3.elim
  | dt _ => exact h3.elim
  | raw _ => exact h3.elim
theorem sim_chain {r r' : R2} {dr dr' : DR} (hr : SimR K c H0 r dr) (hr' : SimR K c H0 r' dr') (ha : SimE K c H0 ta da) (hb : SimE K c H0 tb db) (hc : SimE K c H0 tc dc) : SimE K c H0 (tChain r r' ta tb tc) (dChain dr dr' da db dc) := by
  intro ρ P h O σ H Q rp q
  refine ha ρ _ h O σ H _ rp fun v x b H1 h1 rp1 e1 rx => ?_
  refine hb ρ _ h1 O σ H1 _ rp1 fun u y b' H2 h2 rp2 e2 ry => ?_
  refine hr x y _ h2 O H2 _ v u (b || b') σ ρ rp2 (rx.up e2).or ry.or' fun z w H3 h3 e3 i3 rz => ?_
  have rp3 := rp2.up e3 i3
  obtain ⟨k, e, h4⟩ := rb_bl rz h3
  refine ⟨k, e, ?_⟩
  cases k with
  | false => exact q _ _ _ H3 h4 rp3 ((e1.trans e2).trans e3) rfl
  | true =>
    refine hc ρ _ h4 O σ H3 _ rp3 fun w' z' b'' H4 h5 rp4 e4 rz' => ?_
    exact hr' y z' _ h5 O H4 _ u w' (b' || b'') σ ρ rp4 ((ry.up e3).up e4).or rz'.or' fun z w H5 h6 e5 i5 rw' => q w z _ H5 h6 (rp4.up e5 i5) (((e1.trans e2).trans (e3.trans e4)).trans e5) rw'.dirt
theorem rb_str {K : PySem.W.Frag} {H : Hp} {v : V} : ∀ {d : D} {P : Str → Prop}, R K H d v → asStr d P → ∃ k, v = .str k ∧ P k
  | .str k, _, r, h => ⟨k, r, h⟩
  | .non, _, _, h => h.elim
  | .int _, _, _, h => h.elim
  | .bl _, _, _, h => h.elim
  | .lst _, _, _, h => h.elim
  | .tup _, _, _, h => h.elim
  | .ins _ _, _, _, h => h.elim
  | .lam _, _, _, h => h.elim
  | .dk _, _, _, h => h.elim
  | .dt _, _, _, h => h.elim
  | .raw _, _, _, h => h.elim
theorem sim_split (ha : SimE K c H0 ta da) (hb : SimE K c H0 tb db) : SimE K c H0 (tM1 rSplit ta tb) (dSplit da db) := by
  intro ρ P h O σ H Q rp q
  refine ha ρ _ h O σ H _ rp fun v x b H1 h1 rp1 e1 rx => ?_
  obtain ⟨a, ea, h2⟩ := rb_str rx h1
  refine ⟨⟨a, ea⟩, ?_⟩
  refine hb ρ _ h2 O σ H1 _ rp1 fun u y b' H2 h3 rp2 e2 ry => ?_
  obtain ⟨s, es, h4⟩ := rb_str ry h3
  refine ⟨a, s, ea, by rw [es], h4.1.1, h4.1.2, fun p hp => ?_⟩
  obtain ⟨z1, z2, z3⟩ := sr_new (b := false) rp2 hp (show RBA K c O H2 false _ _ from RA.strs' (Txt.split a s))
  exact q _ _ _ _ h4.2 (rp2.up z1 z2) ((e1.trans e2).trans z1) z3
theorem items_of {H : Hp} : ∀ {d : D} {v : V} {ds : List D}, d.items = some ds → R K H d v → ∃ p xs, v = .ref p ∧ (SqL K H p xs ∨ SqT K H p xs) ∧ RA K H ds xs
  | .lst _, v, ds, e, r => by
    cases e
    obtain ⟨a, xs, h1, h2, h3⟩ := r
    exact ⟨a, xs, h1, .inl (.inl (.inl h2)), h3⟩
  | .tup _, v, ds, e, r => by
    cases e
    obtain ⟨a, xs, h1, h2, h3⟩ := r
    exact ⟨a, xs, h1, .inr h2, h3⟩
  | .non, _, _, e, _ => by cases e
  | .bl _, _, _, e, _ => by cases e
  | .int _, _, _, e, _ => by cases e
  | .str _, _, _, e, _ => by cases e
  | .ins _ _, _, _, e, _ => by cases e
  | .lam _, _, _, e, _ => by cases e
  | .dk _, _, _, e, _ => by cases e
  | .dt _, _, _, e, _ => by cases e
  | .raw _, _, _, e, _ => by cases e
theorem sim_join (ha : SimE K c H0 ta da) (hb : SimE K c H0 tb db) : SimE K c H0 (tM1 (rJoin K) ta tb) (dJoin da db) := by
  intro ρ P h O σ H Q rp q
  refine ha ρ _ h O σ H _ rp fun v x b H1 h1 rp1 e1 rx => ?_
  obtain ⟨a, ea, h2⟩ := rb_str rx h1
  refine ⟨⟨a, ea⟩, ?_⟩
  refine hb ρ _ h2 O σ H1 _ rp1 fun u y b' H2 h3 rp2 e2 ry => ?_
  obtain ⟨ys, e, h3⟩ := optP_some h3
  obtain ⟨ds, f1, f2⟩ := Option.bind_eq_some_iff.mp e
  obtain ⟨p, xs, rfl, g1, g2⟩ := items_of f1 ry.here
  rw [asStrs_eq f2] at g2
  rw [g2.strs] at g1
  exact ⟨a, p, ys, ea, rfl, g1, h3.1, q _ _ _ H2 h3.2 rp2 (e1.trans e2) rfl⟩
end
end QD

/-! QD5: what is walked, comprehensions, loops, calls, own lists, a def's promise by data. -/
namespace QD
open PySem L2

/-! ### a list, a tuple or a text, walked -/
def iAny (K : PySem.W.Frag) (te : TE) : TI := fun σ H R => te σ H fun x H1 =>
  (∃ a xs, x = .ref a ∧ SqL K H1 a xs ∧ R (Itl K a) H1) ∨ (∃ a xs, x = .ref a ∧ SqT K H1 a xs ∧ R (Itt K a) H1) ∨ (∃ z, x = .str z ∧ R (Its z) H1)
/-- a new iterator object at the heap's end -/
theorem seat {X : Cx} {pins : List (Addr × Obj)} {σ : St} {G : Hp} {z : Shared} {tg : Expr} {Rr : It → Hp → Prop} {J : It} {tn : Nat → Heap → Prop} (I : Inv X pins σ G z) (ob : Obj)
    (turn : Turn X.prog X.w X.K tg J [z.heap.objs.size] z.heap.objs.size tn) (st : tn 0 (z.heap.push ob)) (hq : Rr J G) : PIE X pins σ tg Rr (.ref z.heap.objs.size) { z with heap := z.heap.push ob } :=
  pi_one (tk := z.toks) I ob turn st hq
theorem pi_any {X : Cx} {tg l : Expr} {tl : TE} (hl : PE X l tl) : PI X tg l (iAny X.K tl) := by
  constructor
  intro pins s0 σ G Rr I hw
  refine thn (hl.run pins s0 σ G _ I hw) fun u s2 ev => ?_
  obtain ⟨x, G2, J2, rel, cases3⟩ := ev
  rcases cases3 with ⟨p, xs, ex, sq, done⟩ | ⟨p, xs, ex, sq, done⟩ | ⟨txt, ex, done⟩
  · cases ex
    cases rel
    obtain ⟨vals, rv, is, hsz⟩ := J2.list sq
    exact wpAny_pyIter_list is.isList (seat J2 _ (turn_list p _) ⟨_, Heap.get?_push_size _ rfl, rfl, rfl⟩ done)
  · cases ex
    cases rel
    obtain ⟨vals, rv, is, hsz⟩ := J2.tuple sq
    exact wpAny_pyIter_tuple (show s2.heap.IsTuple p vals.toArray from is) (seat J2 _ (turn_tuple p _) ⟨_, Heap.get?_push_size _ rfl, rfl, rfl⟩ done)
  · cases ex
    obtain ⟨tk, rfl⟩ := rel
    cases narrow : txt.cps.all (· < 128)
    · exact wpAny_pyIter_wide narrow (seat J2 _ (turn_str _ txt tk "str_iterator" (.inr rfl)) ⟨_, Heap.get?_push_size _ rfl, rfl, rfl⟩ done)
    · exact wpAny_pyIter_ascii narrow (seat J2 _ (turn_str _ txt tk "str_ascii_iterator" (.inl rfl)) ⟨_, Heap.get?_push_size _ rfl, rfl, rfl⟩ done)

/-- one item of a walk: as it lies, or a new pair -/
def Yld (K : PySem.W.Frag) (F H : Hp) (x : V) (H' : Hp) (d : D) : Prop :=
  (H' = H ∧ R K F d x) ∨ ∃ T a b x1 x2, d = .tup [a, b] ∧ x = .ref T ∧ H T = none ∧ H' = upd H T (.tup [x1, x2]) ∧ R K F a x1 ∧ R K F b x2
def WalkD (K : PySem.W.Frag) (F : Hp) (J : It) (xs : List D) : Prop := ∃ (G : Hp → Prop) (Y : Nat → Hp → V → Hp → Prop), Walk J xs.length G Y ∧ (∀ H, Grow F H → G H) ∧
  ∀ i H x H' d, xs[i]? = some d → Y i H x H' → Yld K F H x H' d
abbrev DI := DEnv → (List D → Prop) → Prop
def SimI (K : PySem.W.Frag) (c : Fm) (H0 : Hp) (wi : TI) (di : DI) : Prop := ∀ ρ P, di ρ P → ∀ O σ H Rr, Rep K c H0 O H σ ρ →
  (∀ J xs H', P xs → Rep K c H0 O H' σ ρ → Ex c.S H H' → WalkD K (but H' (c.M ++ O)) J xs → Rr J H') → wi σ H Rr
def D.walked : D → Option (List D)
  | .lst ds => some ds
  | .tup ds => some ds
  | .str z => some (z.cps.toList.map fun k => .str ⟨#[k]⟩)
  | _ => none
def dWalk (e : DE) : DI := fun ρ P => e ρ fun d b => b = false ∧ optP d.walked P
def rangeD (lo : Int) (n : Nat) : List D := (List.range n).map fun (k : Nat) => D.int (lo + (k : Int))
def dRange1 (e : DE) : DI := fun ρ P => e ρ fun d _ => asInt d fun n => n < 4611686018427387904 ∧ -4611686018427387904 ≤ n ∧ P (rangeD 0 n.toNat)
def dRange2 (e f : DE) : DI := fun ρ P => e ρ fun d _ => f ρ fun d' _ => asInt d fun a => asInt d' fun n => (a < 4611686018427387904 ∧ -4611686018427387904 ≤ a ∧ n < 4611686018427387904 ∧ -4611686018427387904 ≤ n) ∧ P (rangeD a (n - a).toNat)
section
variable {K : PySem.W.Frag} {c : Fm} {H0 : Hp} {ta tb te : TE} {da db de : DE}
theorem walkD_list {F : Hp} {a : Addr} {xs : List V} {ds : List D} (h : SqL K F a xs) (ra : RA K F ds xs) : WalkD K F (Itl K a) ds := by
  refine ⟨fun H => SqL K H a xs, YAt xs, by rw [← ra.length]; exact walk_list, fun H g => grow_l g h, fun i H x H' d e y => .inl ⟨y.1, ?_⟩⟩
  obtain ⟨v, h1, h2⟩ := ra.get' e
  have := y.2.symm.trans h1
  cases this
  exact h2
theorem walkD_tup {F : Hp} {a : Addr} {xs : List V} {ds : List D} (h : SqT K F a xs) (ra : RA K F ds xs) : WalkD K F (Itt K a) ds := by
  refine ⟨fun H => SqT K H a xs, YAt xs, by rw [← ra.length]; exact walk_tup, fun H g => grow_t g h, fun i H x H' d e y => .inl ⟨y.1, ?_⟩⟩
  obtain ⟨v, h1, h2⟩ := ra.get' e
  have := y.2.symm.trans h1
  cases this
  exact h2
theorem walkD_str {F : Hp} {z : Str} : WalkD K F (Its z) (z.cps.toList.map fun k => .str ⟨#[k]⟩) := by
  refine ⟨fun _ => True, fun i H v H' => H' = H ∧ ∃ c, z.cps[i]? = some c ∧ v = .str ⟨#[c]⟩, by rw [List.length_map, Array.length_toList]; exact walk_str, fun H g => True.intro, fun i H x H' d e y => .inl ⟨y.1, ?_⟩⟩
  obtain ⟨k, h1, h2⟩ := y.2
  rw [List.getElem?_map, Array.getElem?_toList, h1] at e
  cases e
  exact h2
theorem walkD_range {F : Hp} {lo : Int} {n : Nat} : WalkD K F (Itr lo n) (rangeD lo n) := by
  unfold rangeD
  refine ⟨fun _ => True, YFn fun i => .int (lo + i), by rw [List.length_map, List.length_range]; exact walk_range, fun H g => True.intro, fun i H x H' d e y => .inl ⟨y.1, ?_⟩⟩
  rw [List.getElem?_map] at e
  obtain ⟨k, e1, rfl⟩ := Option.map_eq_some_iff.mp e
  have e2 := (List.getElem?_eq_some_iff.mp e1).2
  rw [List.getElem_range] at e2
  rw [← e2]
  exact y.2
theorem si_any (ha : SimE K c H0 ta da) : SimI K c H0 (iAny K ta) (dWalk da) := by
  intro ρ P h O σ H Rr rp q
  refine ha ρ _ h O σ H _ rp fun v x b H1 h1 rp1 e1 rx => ?_
  obtain ⟨hb, h1⟩ := h1
  subst hb
  obtain ⟨xs, e, h1⟩ := optP_some h1
  cases x with
  | lst ds =>
    cases e
    obtain ⟨a, ys, rfl, g1, g2⟩ := id rx
    exact .inl ⟨a, ys, rfl, .inl (.inl (tracked_of g1)), q _ _ H1 h1 rp1 e1 (walkD_list (.inl (.inl g1)) g2)⟩
  | tup ds =>
    cases e
    obtain ⟨a, ys, rfl, g1, g2⟩ := id rx
    exact .inr (.inl ⟨a, ys, rfl, grow_t but_grow g1, q _ _ H1 h1 rp1 e1 (walkD_tup g1 g2)⟩)
  | str z =>
    cases e
    exact .inr (.inr ⟨z, rx, q _ _ H1 h1 rp1 e1 walkD_str⟩)
  | non => cases e
  | bl _ => cases e
  | int _ => cases e
  | ins _ _ => cases e
  | lam _ => cases e
  | dk _ => cases e
  | dt _ => cases e
  | raw _ => cases e
theorem si_range1 (ha : SimE K c H0 ta da) : SimI K c H0 (iRng1 (tCons ta tNil)) (dRange1 da) := by
  intro ρ P h O σ H Rr rp q
  refine ha ρ _ h O σ H _ rp fun v x b H1 h1 rp1 e1 rx => ?_
  obtain ⟨n, _, rfl, h2⟩ := rb_int rx h1
  exact ⟨n, rfl, h2.2.1, h2.1, q _ _ H1 h2.2.2 rp1 e1 walkD_range⟩
theorem si_range2 (ha : SimE K c H0 ta da) (hb : SimE K c H0 tb db) : SimI K c H0 (iRng2 (tCons ta (tCons tb tNil))) (dRange2 da db) := by
  intro ρ P h O σ H Rr rp q
  refine ha ρ _ h O σ H _ rp fun v x b H1 h1 rp1 e1 rx => ?_
  refine hb ρ _ h1 O σ H1 _ rp1 fun u y b' H2 h2 rp2 e2 ry => ?_
  obtain ⟨i, _, rfl, h2⟩ := rb_int rx h2
  obtain ⟨n, _, rfl, h2⟩ := rb_int ry h2
  exact ⟨_, _, rfl, ⟨h2.1.2.1, h2.1.1, h2.1.2.2.2, h2.1.2.2.1⟩, q _ _ H2 h2.2 rp2 (e1.trans e2) walkD_range⟩
end

/-! ### targets that a block forgets -/
def dwipe (ρ : DEnv) : List Nat → DEnv
  | [] => ρ
  | v :: vs => (dwipe ρ vs).set v none
theorem wipe_len (σ : St) (vs : List Nat) : (wipe σ vs).length = σ.length := wipe_length σ vs
theorem dwipe_len (ρ : DEnv) : ∀ vs : List Nat, (dwipe ρ vs).length = ρ.length
  | [] => rfl
  | v :: vs => by unfold dwipe; rw [List.length_set, dwipe_len ρ vs]
theorem wipe_get (σ : St) {i : Nat} : ∀ {vs : List Nat}, i ∉ vs → (wipe σ vs)[i]? = σ[i]?
  | [], _ => rfl
  | v :: vs, h => by
    unfold wipe
    rw [List.getElem?_set_ne (fun e => h (by rw [e]; exact List.mem_cons_self)), wipe_get σ fun z => h (List.mem_cons_of_mem _ z)]
theorem wipe_in (σ : St) {i : Nat} (hi : i < σ.length) : ∀ {vs : List Nat}, i ∈ vs → (wipe σ vs)[i]? = some none
  | [], h => by simp at h
  | v :: vs, h => by
    unfold wipe
    by_cases e : v = i
    · subst e
      rw [List.getElem?_set_self (by rw [wipe_len]; exact hi)]
    · rw [List.getElem?_set_ne e]
      exact wipe_in σ hi ((List.mem_cons.mp h).elim (fun z => absurd z.symm e) id)
theorem dwipe_get (σ : DEnv) {i : Nat} : ∀ {vs : List Nat}, i ∉ vs → (dwipe σ vs)[i]? = σ[i]?
  | [], _ => rfl
  | v :: vs, h => by
    unfold dwipe
    rw [List.getElem?_set_ne (fun e => h (by rw [e]; exact List.mem_cons_self)), dwipe_get σ fun z => h (List.mem_cons_of_mem _ z)]
theorem dwipe_in (σ : DEnv) {i : Nat} (hi : i < σ.length) : ∀ {vs : List Nat}, i ∈ vs → (dwipe σ vs)[i]? = some none
  | [], h => by simp at h
  | v :: vs, h => by
    unfold dwipe
    by_cases e : v = i
    · subst e
      rw [List.getElem?_set_self (by rw [dwipe_len]; exact hi)]
    · rw [List.getElem?_set_ne e]
      exact dwipe_in σ hi ((List.mem_cons.mp h).elim (fun z => absurd z.symm e) id)
theorem wipe_ext {σ τ : St} {vs : List Nat} (hl : σ.length = τ.length) (h : ∀ i, i ∉ vs → σ[i]? = τ[i]?) : wipe σ vs = wipe τ vs := by
  apply List.ext_getElem?
  intro i
  by_cases hi : i ∈ vs
  · by_cases hl2 : i < σ.length
    · rw [wipe_in σ hl2 hi, wipe_in τ (by omega) hi]
    · rw [List.getElem?_eq_none (by rw [wipe_len]; omega), List.getElem?_eq_none (by rw [wipe_len]; omega)]
  · rw [wipe_get σ hi, wipe_get τ hi, h i hi]
/-- a target that stores into the slots ns only -/
def SimGn (K : PySem.W.Frag) (c : Fm) (H0 : Hp) (g : TG) (dg : DG) (ns : List Nat) : Prop := ∀ x ρ P, dg x ρ P → ∀ v O σ H Q, Rep K c H0 O H σ ρ → R K (but H (c.M ++ O)) x v →
  (∀ ρ' σ', P ρ' → Rep K c H0 O H σ' ρ' → σ'.length = σ.length → (∀ i, i ∉ ns → σ'[i]? = σ[i]? ∧ ρ'[i]? = ρ[i]?) → Q σ' H) → g v σ H Q
section
variable {K : PySem.W.Frag} {c : Fm} {H0 : Hp}
theorem SimGn.g {g : TG} {dg : DG} {ns : List Nat} (h : SimGn K c H0 g dg ns) : SimG K c H0 g dg := fun x ρ P p v O σ H Q rp rv q => h x ρ P p v O σ H Q rp rv fun ρ' σ' a b _ _ => q ρ' σ' a b
theorem sgn_name {i : Nat} : SimGn K c H0 (gName i) (dGName i) [i] := fun x ρ P h v O σ H Q rp rv q => q _ _ h (rp.setVal i rv) (List.length_set ..) fun j hj => by
  have hj : i ≠ j := fun e => hj (by rw [e]; exact List.mem_singleton.mpr rfl)
  exact ⟨List.getElem?_set_ne hj, List.getElem?_set_ne hj⟩
/-- a, b = pair -/
def dGPair (i j : Nat) : DG
  | .tup [a, b], ρ, Q => Q ((ρ.set i (some (Ent.val a))).set j (some (Ent.val b)))
  | _, _, _ => False
theorem sgn_pair {i j : Nat} : SimGn K c H0 (gTup K 2 (gCons (gName i) (gCons (gName j) gNil))) (dGPair i j) [i, j] := by
  intro x ρ P h v O σ H Q rp rv q
  unfold dGPair at h
  split at h
  · rename_i a b
    obtain ⟨p, xs, rfl, h1, h2⟩ := rv
    obtain ⟨x1, r1, rfl, g1, x2, r2, rfl, g2, g3⟩ := h2
    have e3 : r2 = [] := g3
    subst e3
    refine ⟨p, [x1, x2], rfl, grow_t but_grow h1, rfl, x1, [x2], rfl, x2, [], rfl, rfl, ?_⟩
    refine q _ _ h ((rp.setVal i g1).setVal j g2) (by rw [List.length_set, List.length_set]) fun k hk => ?_
    have k1 : i ≠ k := fun e => hk (by rw [e]; simp)
    have k2 : j ≠ k := fun e => hk (by rw [e]; simp)
    rw [List.getElem?_set_ne k2, List.getElem?_set_ne k1, List.getElem?_set_ne k2, List.getElem?_set_ne k1]
    exact ⟨rfl, rfl⟩
  · exact h.elim
theorem Rep.wipe {O : List Addr} {H : Hp} {σ : St} {ρ : DEnv} (r : Rep K c H0 O H σ ρ) (vs : List Nat) : Rep K c H0 O H (L2.wipe σ vs) (dwipe ρ vs) := by
  have no : ∀ (i : Nat) (e : Ent), (dwipe ρ vs)[i]? = some (some e) → i ∉ vs ∧ ρ[i]? = some (some e) := fun i e q => by
    have hi : i < ρ.length := by
      have := (List.getElem?_eq_some_iff.mp q).1
      rwa [dwipe_len] at this
    by_cases z : i ∈ vs
    · rw [dwipe_in ρ hi z] at q; cases q
    · rw [dwipe_get ρ z] at q; exact ⟨z, q⟩
  refine ⟨r.inv0, r.inv, r.ent, r.fresh, r.liv, by rw [wipe_len, dwipe_len]; exact r.len, fun i d q => ?_, fun i ds q => ?_, fun i j ds es p q1 q2 z1 z2 => ?_, fun x C fs hm q => ?_⟩
  · obtain ⟨n, q⟩ := no i _ q
    obtain ⟨v, h1, h2⟩ := r.val i d q
    exact ⟨v, by rw [wipe_get σ n]; exact h1, h2⟩
  · obtain ⟨n, q⟩ := no i _ q
    obtain ⟨p, xs, h1, h2⟩ := r.own i ds q
    exact ⟨p, xs, by rw [wipe_get σ n]; exact h1, h2⟩
  · obtain ⟨n1, q1⟩ := no i _ q1
    obtain ⟨n2, q2⟩ := no j _ q2
    rw [wipe_get σ n1] at z1
    rw [wipe_get σ n2] at z2
    exact r.sep i j ds es p q1 q2 z1 z2
  · obtain ⟨n, q⟩ := no 0 _ q
    rw [wipe_get σ n]
    exact r.me x C fs hm q
/-- one more own address, which no slot holds as its own -/
theorem Rep.more {O : List Addr} {H : Hp} {σ : St} {ρ : DEnv} (r : Rep K c H0 O H σ ρ) {p : Addr} {o : HO} (h : H p = none) (ho : mutO o = true := by rfl) : Rep K c H0 (p :: O) (upd H p o) σ ρ := by
  have g : Grow (but H (c.M ++ O)) (but (upd H p o) (c.M ++ p :: O)) := fun a u e => by
    obtain ⟨n, e⟩ := but_some e
    have hne : a ≠ p := ne_of_none e h
    refine but_of (fun z => ?_) (by rw [upd_ne hne]; exact e)
    rcases List.mem_append.mp z with z | z
    · exact n (List.mem_append_left _ z)
    · rcases List.mem_cons.mp z with z | z
      · exact hne z
      · exact n (List.mem_append_right _ z)
  have gg : Grow H (upd H p o) := Grow.new h
  refine ⟨r.inv0, c.st _ _ gg r.inv, r.ent.trans (Ex.of gg), fun a ha => ?_, fun a ha => ?_, r.len, fun i d q => ?_, fun i ds q => ?_, r.sep, r.me⟩
  · rcases List.mem_cons.mp ha with e | ha
    · rw [e]; exact r.new0 h
    · exact r.fresh a ha
  · rcases List.mem_cons.mp ha with e | ha
    · exact ⟨o, by rw [e, upd_same], ho⟩
    · exact (r.liv a ha).keep (gg a)
  · obtain ⟨v, h1, h2⟩ := r.val i d q
    exact ⟨v, h1, R.grow g d v h2⟩
  · obtain ⟨q', xs, h1, h2, h3, h4⟩ := r.own i ds q
    exact ⟨q', xs, h1, List.mem_cons_of_mem _ h2, gg _ _ h3, h4.grow g⟩
/-- an own address that no slot holds: its list is stored anew -/
theorem Rep.store {O : List Addr} {H : Hp} {σ : St} {ρ : DEnv} (r : Rep K c H0 O H σ ρ) {p : Addr} (hp : p ∈ O) (o : HO) (hno : ∀ (i : Nat) (ds : D), ρ[i]? = some (some (Ent.own ds)) → σ[i]? ≠ some (some (.ref p))) (ho : mutO o = true := by rfl) : Rep K c H0 O (upd H p o) σ ρ := by
  have hf := (r.liv p hp).nofrz
  have g : Grow (but H (c.M ++ O)) (but (upd H p o) (c.M ++ O)) := fun a u e => by
    obtain ⟨n, e⟩ := but_some e
    have hne : a ≠ p := fun z => n (List.mem_append_right _ (z ▸ hp))
    exact but_of n (by rw [upd_ne hne]; exact e)
  have gM : ∀ a u, H a = some u → a ≠ p → upd H p o a = some u := fun a u e n => by rw [upd_ne n]; exact e
  have hpM : p ∉ c.M := r.notM hp
  have iv : c.I (upd H p o) := c.mu H _ p r.inv gM hpM (fun b e z => (r.bagO b e).1 (z ▸ hp)) hf
  refine ⟨r.inv0, iv, fun a u e n => ?_, r.fresh, fun a ha => ?_, r.len, fun i d q => ?_, fun i ds q => ?_, r.sep, r.me⟩
  · have hne : a ≠ p := fun z => by rw [z, r.fresh p hp] at e; cases e
    rw [upd_ne hne]
    exact r.ent a u e n
  · by_cases e : a = p
    · exact ⟨o, by rw [e, upd_same], ho⟩
    · exact (r.liv a ha).keep fun u q => by rw [upd_ne e]; exact q
  · obtain ⟨v, h1, h2⟩ := r.val i d q
    exact ⟨v, h1, R.grow g d v h2⟩
  · obtain ⟨q', xs, h1, h2, h3, h4⟩ := r.own i ds q
    have hne : q' ≠ p := fun z => hno i ds q (z ▸ h1)
    exact ⟨q', xs, h1, h2, by rw [upd_ne hne]; exact h3, h4.grow g⟩
end
end QD

/-! QD6: comprehensions, loops, own lists, calls, a def's promise by data. -/
namespace QD
open PySem L2

section
variable {K : PySem.W.Frag} {c : Fm} {H0 : Hp} {ta tb te : TE} {da db de : DE}
/-- an own address that no slot holds is let go -/
theorem Rep.less {O : List Addr} {p : Addr} {H : Hp} {σ : St} {ρ : DEnv} (r : Rep K c H0 (p :: O) H σ ρ) (hno : ∀ (i : Nat) (ds : D), ρ[i]? = some (some (Ent.own ds)) → σ[i]? ≠ some (some (.ref p))) : Rep K c H0 O H σ ρ := by
  have g : Grow (but H (c.M ++ p :: O)) (but H (c.M ++ O)) := but_le fun a z => (List.mem_append.mp z).elim (fun q => List.mem_append_left _ q) fun q => List.mem_append_right _ (List.mem_cons_of_mem _ q)
  refine ⟨r.inv0, r.inv, r.ent, fun a h => r.fresh a (List.mem_cons_of_mem _ h), fun a h => r.liv a (List.mem_cons_of_mem _ h), r.len, fun i d q => ?_, fun i ds q => ?_, r.sep, r.me⟩
  · obtain ⟨v, h1, h2⟩ := r.val i d q
    exact ⟨v, h1, R.grow g d v h2⟩
  · obtain ⟨q', xs, h1, h2, h3, h4⟩ := r.own i ds q
    refine ⟨q', xs, h1, ?_, h3, h4.grow g⟩
    rcases List.mem_cons.mp h2 with e | h2
    · exact absurd (e ▸ h1) (hno i ds q)
    · exact h2
theorem Rep.own_ne {O : List Addr} {H : Hp} {σ : St} {ρ : DEnv} (r : Rep K c H0 O H σ ρ) {p : Addr} (h : H p = none) : ∀ (i : Nat) (ds : D), ρ[i]? = some (some (Ent.own ds)) → σ[i]? ≠ some (some (.ref p)) := fun i ds q e => by
  obtain ⟨q', xs, h1, h2, h3, h4⟩ := r.own i ds q
  have : q' = p := by
    have := h1.symm.trans e
    injection this with this
    injection this with this
    injection this
  rw [this, h] at h3
  cases h3

/-- the turns of a comprehension -/
def lcGo (dg : DG) (dt : DT) (de : DE) (vs : List Nat) (ρ : DEnv) : List D → List D → (List D → Prop) → Prop
  | acc, [], P => P acc
  | acc, x :: xs, P => dg x (dwipe ρ vs) fun ρ2 => dt ρ2 fun k => if k = true then de ρ2 fun d b => b = false ∧ acc.length < sizeLine ∧ lcGo dg dt de vs ρ (acc ++ [d]) xs P else lcGo dg dt de vs ρ acc xs P
def dLc (di : DI) (dg : DG) (dt : DT) (de : DE) (vs : List Nat) : DE := fun ρ P => di ρ fun xs => lcGo dg dt de vs ρ [] xs fun acc => P (.lst acc) false
theorem Yld.rep {F H : Hp} {x : V} {H' : Hp} {d : D} {O : List Addr} {σ : St} {ρ : DEnv} (y : Yld K F H x H' d) (rp : Rep K c H0 O H σ ρ) (g : Grow F (but H (c.M ++ O))) : Grow H H' ∧ Rep K c H0 O H' σ ρ ∧ R K (but H' (c.M ++ O)) d x := by
  rcases y with ⟨rfl, r⟩ | ⟨T, a, b, x1, x2, rfl, rfl, hT, rfl, r1, r2⟩
  · exact ⟨Grow.refl _, rp, R.grow g d x r⟩
  · have hn := rp.new hT
    have gr : Grow H (upd H T (.tup [x1, x2])) := Grow.new hT
    have ex : Ex c.S H (upd H T (.tup [x1, x2])) := Ex.new hT
    have g2 := g.ex (c := c) (O := O) ex
    exact ⟨gr, rp.up ex (c.st _ _ gr rp.inv), T, [x1, x2], rfl, .inl (.inl (but_of hn upd_same)), x1, [x2], rfl, R.grow g2 a x1 r1, x2, [], rfl, R.grow g2 b x2 r2, rfl⟩
theorem sim_yes : SimT K c H0 tYes (fun _ P => P true) := fun ρ P h O σ H Q rp q => q true H h rp (Ex.refl H)
theorem drop_cons_of {α : Type} {xs : List α} {i : Nat} (h : i < xs.length) : xs.drop i = xs[i] :: xs.drop (i + 1) := List.drop_eq_getElem_cons h
theorem sim_lc {wi : TI} {di : DI} {g : TG} {dg : DG} {tt : TT} {dt : DT} {vs : List Nat} (hi : SimI K c H0 wi di) (hg : SimGn K c H0 g dg vs) (ht : SimT K c H0 tt dt) (he : SimE K c H0 te de) : SimE K c H0 (tLc wi g tt te vs) (dLc di dg dt de vs) := by
  intro ρ P h O σ H Q rp q
  refine hi ρ _ h O σ H _ rp fun J xs H1 h1 rp1 e1 w => ?_
  intro D hD
  obtain ⟨G, Y, wk, hG, hY⟩ := w
  have rpD := rp1.more (o := HO.lst []) hD
  have hnM := rp1.new hD
  have hno := rp1.own_ne hD
  have gD : Grow (but H1 (c.M ++ O)) (but (upd H1 D (.lst [])) (c.M ++ D :: O)) := fun a u e => by
    obtain ⟨n, e⟩ := but_some e
    have hne : a ≠ D := ne_of_none e hD
    refine but_of (fun z => ?_) (by rw [upd_ne hne]; exact e)
    rcases List.mem_append.mp z with z | z
    · exact n (List.mem_append_left _ z)
    · rcases List.mem_cons.mp z with z | z
      · exact hne z
      · exact n (List.mem_append_right _ z)
  refine lc_it wk (fun i H2 => ∃ av ad, Rep K c H0 (D :: O) H2 σ ρ ∧ H2 D = some (.lst av) ∧ RA K (but H2 (c.M ++ D :: O)) ad av ∧ Ex c.S H1 H2 ∧ Grow (but H1 (c.M ++ O)) (but H2 (c.M ++ D :: O)) ∧ lcGo dg dt de vs ρ ad (xs.drop i) (fun acc => P (.lst acc) false))
    ⟨[], [], rpD, upd_same, rfl, Ex.new hD, gD, h1⟩ (fun i H2 _ ⟨av, ad, _, _, _, _, gg, _⟩ => hG H2 (gg.trans but_grow)) (fun i x H2 H3 hlt ⟨av, ad, rp2, hD2, ra2, ex2, g2, lg⟩ y => ?_) fun H2 ⟨av, ad, rp2, hD2, ra2, ex2, g2, lg⟩ => ?_
  · rw [drop_cons_of hlt] at lg
    obtain ⟨gr3, rp3, rx3⟩ := (hY i H2 x H3 _ (List.getElem?_eq_getElem hlt) y).rep rp2 g2
    have hD3 := gr3 _ _ hD2
    have ra3 : RA K (but H3 (c.M ++ D :: O)) ad av := RA.grow (Ex.but (S := []) (Ex.of gr3) (fun a z => by simp at z)) _ _ ra2
    have g3 : Grow (but H1 (c.M ++ O)) (but H3 (c.M ++ D :: O)) := g2.trans (Ex.but (S := []) (Ex.of gr3) (fun a z => by simp at z))
    have rpw := rp3.wipe vs
    refine hg xs[i] _ _ lg x (D :: O) (wipe σ vs) H3 _ rpw rx3 fun ρ2 σ2 lg2 rp4 hl4 same4 => ?_
    refine ⟨?_, ?_⟩
    · have e1 : wipe σ2 vs = wipe (wipe σ vs) vs := wipe_ext hl4 fun k hk => (same4 k hk).1
      rw [e1]
      exact wipe_ext (wipe_len σ vs) fun k hk => wipe_get σ hk
    · refine ht ρ2 _ lg2 (D :: O) σ2 H3 _ rp4 fun k H4 lg4 rp5 e5 => ?_
      have hDS : D ∉ c.S := rp2.notS List.mem_cons_self
      cases k with
      | false =>
        refine ⟨av, ad, rp3.up e5 rp5.inv, e5 _ _ hD3 hDS, RA.grow (e5.but fun a z => List.mem_append_left _ (c.sub a z)) _ _ ra3, (ex2.trans (Ex.of gr3)).trans e5, g3.ex e5, ?_⟩
        exact lg4
      | true =>
        have lg4 : de ρ2 fun d b => b = false ∧ ad.length < sizeLine ∧ lcGo dg dt de vs ρ (ad ++ [d]) (xs.drop (i + 1)) (fun acc => P (.lst acc) false) := lg4
        show te σ2 H4 _
        refine he ρ2 _ lg4 (D :: O) σ2 H4 _ rp5 fun y d b H5 lg5 rp6 e6 ry => ?_
        obtain ⟨hb, hsz, lg6⟩ := lg5
        subst hb
        have e56 := e5.trans e6
        have hD5 := e56 _ _ hD3 hDS
        have ra5 : RA K (but H5 (c.M ++ D :: O)) ad av := RA.grow (e56.but fun a z => List.mem_append_left _ (c.sub a z)) _ _ ra3
        refine ⟨av, hD5, by rw [ra5.length]; exact hsz, av ++ [y], ad ++ [d], (rp3.up e56 rp6.inv).store List.mem_cons_self _ hno, upd_same, ?_, ?_, ?_, lg6⟩
        · refine RA.grow (fun a u e => ?_) _ _ (ra5.snoc ry)
          obtain ⟨n, e⟩ := but_some e
          have hne : a ≠ D := fun z => n (List.mem_append_right _ (z ▸ List.mem_cons_self))
          exact but_of n (by rw [upd_ne hne]; exact e)
        · intro a u e n
          have hne : a ≠ D := ne_of_none e hD
          rw [upd_ne hne]
          exact ((ex2.trans (Ex.of gr3)).trans e56) a u e n
        · refine (g3.ex e56).trans fun a u e => ?_
          obtain ⟨n, e⟩ := but_some e
          have hne : a ≠ D := fun z => n (List.mem_append_right _ (z ▸ List.mem_cons_self))
          exact but_of n (by rw [upd_ne hne]; exact e)
  · rw [List.drop_length] at lg
    have rpf := rp2.less hno
    refine q _ _ false H2 lg rpf (e1.trans ex2) ⟨D, av, rfl, but_of hnM hD2, ?_⟩
    exact RA.grow (but_le fun a z => (List.mem_append.mp z).elim (fun q => List.mem_append_left _ q) fun q => List.mem_append_right _ (List.mem_cons_of_mem _ q)) _ _ ra2

/-! ### for -/
def dLoop (dg : DG) (body : DS) (Dd : DEnds) : List D → DEnv → Prop
  | [], ρ => Dd.nx ρ
  | x :: xs, ρ => dg x ρ fun ρ2 => body { nx := dLoop dg body Dd xs, rt := Dd.rt, bk := Dd.nx, ct := dLoop dg body Dd xs } ρ2
def dFor (di : DI) (dg : DG) (body : DS) : DS := fun Dd ρ => di ρ fun xs => dLoop dg body Dd xs ρ
theorem sim_for {wi : TI} {di : DI} {g : TG} {dg : DG} {tb : TS} {db : DS} (hi : SimI K c H0 wi di) (hg : SimG K c H0 g dg) (hb : SimS K c H0 tb db) : SimS K c H0 (tFor wi g tb) (dFor di dg db) := by
  intro Dd ρ h O σ H Dn F rp gF R
  refine hi ρ _ h O σ H _ rp fun J xs H1 h1 rp1 e1 w => ?_
  obtain ⟨G, Y, wk, hG, hY⟩ := w
  have gF1 := gF.ex e1
  refine for_it wk (fun i σ2 H2 => ∃ ρ2 O2, Rep K c H0 O2 H2 σ2 ρ2 ∧ Grow (but H1 (c.M ++ O)) (but H2 (c.M ++ O2)) ∧ dLoop dg db Dd (xs.drop i) ρ2)
    ⟨ρ, O, rp1, Grow.refl _, h1⟩ (fun i σ2 H2 _ ⟨ρ2, O2, _, gg, _⟩ => hG H2 (gg.trans but_grow)) (fun i x σ2 H2 H3 hlt ⟨ρ2, O2, rp2, g2, lp⟩ y => ?_) fun σ2 H2 ⟨ρ2, O2, rp2, g2, lp⟩ => ?_
  · rw [drop_cons_of hlt] at lp
    obtain ⟨gr3, rp3, rx3⟩ := (hY i H2 x H3 _ (List.getElem?_eq_getElem hlt) y).rep rp2 g2
    have g3 : Grow (but H1 (c.M ++ O)) (but H3 (c.M ++ O2)) := g2.trans (Ex.but (S := []) (Ex.of gr3) (fun a z => by simp at z))
    refine hg xs[i] ρ2 _ lp x O2 σ2 H3 _ rp3 rx3 fun ρ4 σ4 lp4 rp4 => ?_
    refine hb _ ρ4 lp4 O2 σ4 H3 _ (but H1 (c.M ++ O)) rp4 g3 ⟨fun ρ5 O5 σ5 H5 h5 rp5 g5 => ⟨ρ5, O5, rp5, g5, h5⟩, R.rt, fun ρ5 O5 σ5 H5 h5 rp5 g5 => R.nx ρ5 O5 σ5 H5 h5 rp5 (gF1.trans g5), fun ρ5 O5 σ5 H5 h5 rp5 g5 => ⟨ρ5, O5, rp5, g5, h5⟩⟩
  · rw [List.drop_length] at lp
    exact R.nx ρ2 O2 σ2 H2 lp rp2 (gF1.trans g2)

/-! ### while -/
def dWhile (t : DT) (body : DS) : DS := fun Dd ρ => ∃ W : Nat → DEnv → Prop, (∃ m, W m ρ) ∧ ∀ m ρ, W m ρ → t ρ fun k => if k = true then body { nx := fun ρ' => ∃ m', m' < m ∧ W m' ρ', rt := Dd.rt, bk := Dd.nx, ct := fun ρ' => ∃ m', m' < m ∧ W m' ρ' } ρ else Dd.nx ρ
theorem sim_while {t : TT} {dt : DT} {tb : TS} {db : DS} (ht : SimT K c H0 t dt) (hb : SimS K c H0 tb db) : SimS K c H0 (tWhile t tb) (dWhile dt db) := by
  intro Dd ρ h O σ H Dn F rp gF R
  obtain ⟨W, ⟨m0, w0⟩, turn⟩ := h
  refine ⟨fun m σ2 H2 => ∃ ρ2 O2, Rep K c H0 O2 H2 σ2 ρ2 ∧ Grow F (but H2 (c.M ++ O2)) ∧ W m ρ2, ⟨m0, ρ, O, rp, gF, w0⟩, fun m σ2 H2 ⟨ρ2, O2, rp2, g2, w2⟩ => ?_⟩
  refine ht ρ2 _ (turn m ρ2 w2) O2 σ2 H2 _ rp2 fun k H3 h3 rp3 e3 => ?_
  have g3 := g2.ex e3
  cases k with
  | false => exact R.nx ρ2 O2 σ2 H3 h3 rp3 g3
  | true =>
    refine iteT ⟨fun σ4 H4 => ∃ m', m' < m ∧ ∃ ρ4 O4, Rep K c H0 O4 H4 σ4 ρ4 ∧ Grow F (but H4 (c.M ++ O4)) ∧ W m' ρ4, fun σ4 H4 h4 => h4, ?_⟩
    exact hb _ ρ2 h3 O2 σ2 H3 _ F rp3 g3 ⟨fun ρ5 O5 σ5 H5 ⟨m', hm, w5⟩ rp5 g5 => ⟨m', hm, ρ5, O5, rp5, g5, w5⟩, R.rt, fun ρ5 O5 σ5 H5 h5 rp5 g5 => R.nx ρ5 O5 σ5 H5 h5 rp5 g5, fun ρ5 O5 σ5 H5 ⟨m', hm, w5⟩ rp5 g5 => ⟨m', hm, ρ5, O5, rp5, g5, w5⟩⟩
end
end QD

/-! QD7: own lists, calls, a def's promise by data. -/
namespace QD
open PySem L2

section
variable {K : PySem.W.Frag} {c : Fm} {H0 : Hp} {ta tb te : TE} {da db de : DE}
def ownE : Option (Option Ent) → (List D → Prop) → Prop
  | some (some (.own (.lst ds))), Q => Q ds
  | _, _ => False
theorem ownE_congr {x y : Option (Option Ent)} {P : List D → Prop} (h : x = y) : ownE x P = ownE y P := by rw [h]
def dEntOwn (ρ : DEnv) (i : Nat) (Q : List D → Prop) : Prop := ownE ρ[i]? Q
theorem entOwn {ρ : DEnv} {i : Nat} {Q : List D → Prop} (h : dEntOwn ρ i Q) : ∃ ds, ρ[i]? = some (some (Ent.own (.lst ds))) ∧ Q ds := by
  unfold dEntOwn ownE at h
  split at h
  · rename_i ds e
    exact ⟨ds, e, h⟩
  · exact h.elim
theorem Rep.setOwn {O : List Addr} {p : Addr} {H : Hp} {σ : St} {ρ : DEnv} (r : Rep K c H0 O H σ ρ) (i : Nat) {ds : D} {xs : HO} (hp : p ∈ O) (hx : H p = some xs) (ra : OwnR K (but H (c.M ++ O)) ds xs)
    (hno : ∀ (j : Nat) (es : D), j ≠ i → ρ[j]? = some (some (Ent.own es)) → σ[j]? ≠ some (some (.ref p))) (hme : ∀ (x C : Addr) (fs : List (Str × D)), c.me = some x → i = 0 → ds = .ins C fs → p = x := by intro _ _ _ _ _ z; cases z) : Rep K c H0 O H (σ.set i (some (.ref p))) (ρ.set i (some (Ent.own ds))) := by
  have at_ : ∀ {e : Option Ent}, (ρ.set i (some (Ent.own ds)))[i]? = some e → e = some (Ent.own ds) ∧ i < ρ.length := fun {e} q => by
    have hl : i < ρ.length := by
      have := (List.getElem?_eq_some_iff.mp q).1
      rwa [List.length_set] at this
    rw [List.getElem?_set_self hl] at q
    cases q
    exact ⟨rfl, hl⟩
  refine ⟨r.inv0, r.inv, r.ent, r.fresh, r.liv, by rw [List.length_set, List.length_set]; exact r.len, fun k e q => ?_, fun k es q => ?_, fun k j es fs q' q1 q2 z1 z2 => ?_, fun x C fs hm q => ?_⟩
  · have hk : i ≠ k := fun hk => by
      subst hk
      obtain ⟨z, _⟩ := at_ q
      cases z
    rw [List.getElem?_set_ne hk] at q
    obtain ⟨u, h1, h2⟩ := r.val k e q
    exact ⟨u, by rw [List.getElem?_set_ne hk]; exact h1, h2⟩
  · by_cases hk : i = k
    · subst hk
      obtain ⟨z, hl⟩ := at_ q
      cases z
      exact ⟨p, xs, List.getElem?_set_self (by rw [r.len]; exact hl), hp, hx, ra⟩
    · rw [List.getElem?_set_ne hk] at q
      obtain ⟨q', ys, h1, h2⟩ := r.own k es q
      exact ⟨q', ys, by rw [List.getElem?_set_ne hk]; exact h1, h2⟩
  · by_cases hk : i = k
    · by_cases hj : i = j
      · rw [← hk, ← hj]
      · subst hk
        obtain ⟨z, hl⟩ := at_ q1
        rw [List.getElem?_set_self (by rw [r.len]; exact hl)] at z1
        rw [List.getElem?_set_ne hj] at q2 z2
        injection z1 with z1
        injection z1 with z1
        injection z1 with z1
        rw [← z1] at z2
        exact absurd z2 (hno j fs (fun e => hj e.symm) q2)
    · rw [List.getElem?_set_ne hk] at q1 z1
      by_cases hj : i = j
      · subst hj
        obtain ⟨z, hl⟩ := at_ q2
        rw [List.getElem?_set_self (by rw [r.len]; exact hl)] at z2
        injection z2 with z2
        injection z2 with z2
        injection z2 with z2
        rw [← z2] at z1
        exact absurd z1 (hno k es (fun e => hk e.symm) q1)
      · rw [List.getElem?_set_ne hj] at q2 z2
        exact r.sep k j es fs q' q1 q2 z1 z2
  · by_cases hk : i = 0
    · subst hk
      obtain ⟨z, hl⟩ := at_ q
      injection z with z
      injection z with z
      rw [hme x C fs hm rfl z.symm]
      exact List.getElem?_set_self (by rw [r.len]; exact hl)
    · rw [List.getElem?_set_ne hk] at q ⊢
      exact r.me x C fs hm q

/-! ### an expression that makes a new list -/
abbrev DN := DEnv → (List D → Prop) → Prop
def SimN (K : PySem.W.Frag) (c : Fm) (H0 : Hp) (te : TE) (dn : DN) : Prop := ∀ ρ P, dn ρ P → ∀ O σ H Q, Rep K c H0 O H σ ρ →
  (∀ p xs ds H', P ds → Rep K c H0 (p :: O) H' σ ρ → (∀ (i : Nat) (es : D), ρ[i]? = some (some (Ent.own es)) → σ[i]? ≠ some (some (.ref p))) → H' p = some (.lst xs) → RA K (but H' (c.M ++ p :: O)) ds xs →
    Grow (but H (c.M ++ O)) (but H' (c.M ++ p :: O)) → Ex c.S H H' → p ∉ O → Q (.ref p) H') → te σ H Q
def dnLst (da : DA) : DN := fun ρ P => da ρ fun xs b => b = false ∧ xs.length ≤ sizeLine ∧ P xs
def dnListOf (da : DE) : DN := fun ρ P => da ρ fun d b => b = false ∧ optP d.items P
def dnLc (di : DI) (dg : DG) (dt : DT) (de : DE) (vs : List Nat) : DN := fun ρ P => di ρ fun xs => lcGo dg dt de vs ρ [] xs P
theorem grow_new {O : List Addr} {H : Hp} {p : Addr} {o : HO} (h : H p = none) : Grow (but H (c.M ++ O)) (but (upd H p o) (c.M ++ p :: O)) := fun a u e => by
  obtain ⟨n, e⟩ := but_some e
  have hne : a ≠ p := ne_of_none e h
  refine but_of (fun z => ?_) (by rw [upd_ne hne]; exact e)
  rcases List.mem_append.mp z with z | z
  · exact n (List.mem_append_left _ z)
  · rcases List.mem_cons.mp z with z | z
    · exact hne z
    · exact n (List.mem_append_right _ z)
theorem sn_lst {t : TA} {dt : DA} (ha : SimA K c H0 t dt) : SimN K c H0 (tLst t) (dnLst dt) := by
  intro ρ P h O σ H Q rp q
  refine ha ρ _ h O σ H _ rp fun vs xs b H1 h1 rp1 e1 rx => ?_
  obtain ⟨hb, h2, h3⟩ := h1
  subst hb
  refine ⟨by rw [rx.len]; exact h2, fun p hp => ?_⟩
  exact q p vs xs _ h3 (rp1.more hp) (rp1.own_ne hp) upd_same (RA.grow (grow_new hp) _ _ rx) ((e1.but fun a z => List.mem_append_left _ (c.sub a z)).trans (grow_new hp)) (e1.trans (Ex.new hp)) (fun z => rp1.new hp (List.mem_append_right _ z))
theorem sn_listOf (ha : SimE K c H0 ta da) : SimN K c H0 (tCB (rListOf K) (tCons ta tNil)) (dnListOf da) := by
  intro ρ P h O σ H Q rp q
  refine ha ρ _ h O σ H _ rp fun v x b H1 h1 rp1 e1 rx => ?_
  obtain ⟨hb, h2⟩ := h1
  subst hb
  obtain ⟨ds, e, h2⟩ := optP_some h2
  have g1 := e1.but (M := c.M ++ O) fun a z => List.mem_append_left _ (c.sub a z)
  cases x with
  | lst _ =>
    cases e
    obtain ⟨a, xs, rfl, z1, z2⟩ := id rx
    exact ⟨a, xs, rfl, .inl (.inl (.inl (tracked_of z1))), fun p hp => q p xs _ _ h2 (rp1.more hp) (rp1.own_ne hp) upd_same (RA.grow (grow_new hp) _ _ z2) (g1.trans (grow_new hp)) (e1.trans (Ex.new hp)) (fun z => rp1.new hp (List.mem_append_right _ z))⟩
  | tup _ =>
    cases e
    obtain ⟨a, xs, rfl, z1, z2⟩ := id rx
    exact ⟨a, xs, rfl, .inr (grow_t but_grow z1), fun p hp => q p xs _ _ h2 (rp1.more hp) (rp1.own_ne hp) upd_same (RA.grow (grow_new hp) _ _ z2) (g1.trans (grow_new hp)) (e1.trans (Ex.new hp)) (fun z => rp1.new hp (List.mem_append_right _ z))⟩
  | non => cases e
  | bl _ => cases e
  | int _ => cases e
  | str _ => cases e
  | ins _ _ => cases e
  | lam _ => cases e
  | dk _ => cases e
  | dt _ => cases e
  | raw _ => cases e
/-- x = (a new list), which x owns from then on -/
def tAsgO (te : TE) (i : Nat) : TS := tAsg te (gName i)
def dAsgO (dn : DN) (i : Nat) : DS := fun Dd ρ => dn ρ fun ds => Dd.nx (ρ.set i (some (Ent.own (.lst ds))))
theorem sim_asgO {dn : DN} {i : Nat} (h : SimN K c H0 te dn) : SimS K c H0 (tAsgO te i) (dAsgO dn i) := by
  intro Dd ρ hd O σ H Dn F rp g R
  exact h ρ _ hd O σ H _ rp fun p xs ds H' hn rp' hno hx ra gr _ _ => R.nx _ (p :: O) _ H' hn (rp'.setOwn i List.mem_cons_self hx ⟨xs, rfl, ra⟩ fun j es _ => hno j es) (g.trans gr)

/-! ### an expression that may change own lists -/
abbrev DX := DEnv → (D → DEnv → Prop) → Prop
def SimX (K : PySem.W.Frag) (c : Fm) (H0 : Hp) (te : TE) (dx : DX) : Prop := ∀ ρ P, dx ρ P → ∀ O σ H Q, Rep K c H0 O H σ ρ →
  (∀ v d ρ' H', P d ρ' → Rep K c H0 O H' σ ρ' → Grow (but H (c.M ++ O)) (but H' (c.M ++ O)) → R K (but H' (c.M ++ O)) d v → Q v H') → te σ H Q
def dxE (de : DE) : DX := fun ρ P => de ρ fun d b => b = false ∧ P d ρ
def dxIf (t : DT) (a b : DX) : DX := fun ρ P => t ρ fun k => if k = true then a ρ P else b ρ P
theorem sx_E (h : SimE K c H0 te de) : SimX K c H0 te (dxE de) := by
  intro ρ P hd O σ H Q rp q
  refine h ρ _ hd O σ H _ rp fun v d b H1 h1 rp1 e1 rx => ?_
  obtain ⟨hb, h2⟩ := h1
  subst hb
  exact q v d ρ H1 h2 rp1 (e1.but fun a z => List.mem_append_left _ (c.sub a z)) rx
theorem sx_if {t : TT} {dt : DT} {dx dy : DX} (ht : SimT K c H0 t dt) (ha : SimX K c H0 ta dx) (hb : SimX K c H0 tb dy) : SimX K c H0 (tIf t ta tb) (dxIf dt dx dy) := by
  intro ρ P h O σ H Q rp q
  refine ht ρ _ h O σ H _ rp fun k H1 h1 rp1 e1 => ?_
  have g1 := e1.but (M := c.M ++ O) fun a z => List.mem_append_left _ (c.sub a z)
  cases k with
  | true => exact ha ρ _ h1 O σ H1 _ rp1 fun v d ρ' H2 h2 rp2 g2 => q v d ρ' H2 h2 rp2 (g1.trans g2)
  | false => exact hb ρ _ h1 O σ H1 _ rp1 fun v d ρ' H2 h2 rp2 g2 => q v d ρ' H2 h2 rp2 (g1.trans g2)
/-- an own list is changed -/
theorem Rep.chg {O : List Addr} {p : Addr} {H : Hp} {σ : St} {ρ : DEnv} {i : Nat} {ds es : D} {ys : HO} (r : Rep K c H0 O H σ ρ) (he : ρ[i]? = some (some (Ent.own ds))) (hv : σ[i]? = some (some (.ref p))) (hp : p ∈ O)
    (ra : OwnR K (but H (c.M ++ O)) es ys) (hi : ∀ (C : Addr) (fs : List (Str × D)), es = .ins C fs → ∃ C' fs', ds = .ins C' fs' := by intro _ _ z; cases z) : Rep K c H0 O (upd H p ys) σ (ρ.set i (some (Ent.own es))) ∧ Grow (but H (c.M ++ O)) (but (upd H p ys) (c.M ++ O)) := by
  have g : Grow (but H (c.M ++ O)) (but (upd H p ys) (c.M ++ O)) := fun a u e => by
    obtain ⟨n, e⟩ := but_some e
    have hne : a ≠ p := fun z => n (List.mem_append_right _ (z ▸ hp))
    exact but_of n (by rw [upd_ne hne]; exact e)
  have hlen : i < ρ.length := (List.getElem?_eq_some_iff.mp he).1
  have other : ∀ (j : Nat) (fs : D), j ≠ i → ρ[j]? = some (some (Ent.own fs)) → σ[j]? ≠ some (some (.ref p)) := fun j fs hj e z => hj (r.sep j i fs ds p e he z hv)
  -- the slot i without its list, then with it
  have r1 : Rep K c H0 O H (σ.set i none) (ρ.set i none) := by
    have := r.wipe [i]
    exact this
  have r2 : Rep K c H0 O (upd H p ys) (σ.set i none) (ρ.set i none) := r1.store hp _ (fun j fs e z => by
    by_cases hj : j = i
    · subst hj
      rw [List.getElem?_set_self hlen] at e
      cases e
    · rw [List.getElem?_set_ne (fun q => hj q.symm)] at e z
      exact other j fs hj e z) ra.mut
  have r3 := r2.setOwn i (p := p) (ds := es) (xs := ys) hp upd_same (ra.grow g) (fun j fs hj e z => by
    rw [List.getElem?_set_ne (fun q => hj q.symm)] at e z
    exact other j fs hj e z) fun x C fs hm h0 h1 => by
      obtain ⟨C', fs', h2⟩ := hi C fs h1
      subst h0
      have := (r.me x C' fs' hm (h2 ▸ he)).symm.trans hv
      injection this with this
      injection this with this
      injection this with this
      exact this.symm
  rw [List.set_set, List.set_set] at r3
  have e1 : σ.set i (some (.ref p)) = σ := by
    apply List.ext_getElem?
    intro k
    by_cases hk : i = k
    · subst hk
      rw [List.getElem?_set_self (by rw [r.len]; exact hlen), hv]
    · rw [List.getElem?_set_ne hk]
  rw [e1] at r3
  exact ⟨r3, g⟩
theorem tyV_lst {H : Hp} {p : Addr} {xs : List V} (h : H p = some (.lst xs)) : tyV K "list" (.ref p) H := Or.inl ⟨rfl, _, Or.inl (Or.inl h)⟩
/-- x.append(e) -/
def dAppend (i : Nat) (dx : DX) : DS := fun Dd ρ => dEntOwn ρ i fun _ => dx ρ fun d ρ' => dEntOwn ρ' i fun ds => ds.length < sizeLine ∧ Dd.nx (ρ'.set i (some (Ent.own (.lst (ds ++ [d])))))
theorem sim_append {i : Nat} {dx : DX} (h : SimX K c H0 te dx) : SimS K c H0 (tDrop (tBM K "list" rAppend (tVar i) (tCons te tNil))) (dAppend i dx) := by
  intro Dd ρ hd O σ H Dn F rp g R
  obtain ⟨ds0, e0, hd⟩ := entOwn hd
  obtain ⟨p, _, hv, hp, hx, xs0, rfl, _⟩ := rp.own i _ e0
  refine ⟨.ref p, hv, tyV_lst hx, ?_⟩
  refine h ρ _ hd O σ H _ rp fun v d ρ' H1 h1 rp1 g1 rv => ?_
  obtain ⟨ds, e1, hsz, h2⟩ := entOwn h1
  obtain ⟨p', _, hv', hp', hx', xs, rfl, ra⟩ := rp1.own i _ e1
  have : p' = p := by
    have := hv'.symm.trans hv
    injection this with this
    injection this with this
    injection this
  subst this
  obtain ⟨r3, g3⟩ := rp1.chg e1 hv' hp' (es := .lst _) (ys := .lst _) ⟨_, rfl, ra.snoc rv⟩
  exact ⟨p', xs, v, rfl, rfl, hx', by rw [ra.length]; exact hsz, R.nx _ O σ _ h2 r3 ((g.trans g1).trans g3)⟩
/-- x.pop(k) -/
def dxPopAt (i : Nat) (de : DE) : DX := fun ρ P => dEntOwn ρ i fun ds => de ρ fun d _ => asInt d fun k => (-9223372036854775808 ≤ k ∧ k < 9223372036854775808) ∧
  optP (seqIndex? k ds.length) fun j => optP ds[j]? fun y => P y (ρ.set i (some (Ent.own (.lst (ds.eraseIdx j)))))
theorem sx_popAt {i : Nat} (h : SimE K c H0 te de) : SimX K c H0 (tBM K "list" rPopAt (tVar i) (tCons te tNil)) (dxPopAt i de) := by
  intro ρ P hd O σ H Q rp q
  obtain ⟨ds, e0, hd⟩ := entOwn hd
  obtain ⟨p, _, hv, hp, hx, xs0, rfl, _⟩ := rp.own i _ e0
  refine ⟨.ref p, hv, tyV_lst hx, ?_⟩
  refine h ρ _ hd O σ H _ rp fun v d b H1 h1 rp1 e1 rv => ?_
  obtain ⟨k, _, rfl, hk, h1⟩ := rb_int rv h1
  obtain ⟨p', _, hv', hp', hx', xs, rfl, ra⟩ := rp1.own i _ e0
  have : p' = p := by
    have := hv'.symm.trans hv
    injection this with this
    injection this with this
    injection this
  subst this
  have g1 := e1.but (M := c.M ++ O) fun a z => List.mem_append_left _ (c.sub a z)
  obtain ⟨j, ej, h1⟩ := optP_some h1
  obtain ⟨y, ey, h1⟩ := optP_some h1
  obtain ⟨w, f1, f2⟩ := ra.get' ey
  obtain ⟨r3, g3⟩ := rp1.chg e0 hv' hp' (es := .lst _) (ys := .lst _) ⟨_, rfl, ra.eraseIdx j⟩
  exact ⟨p', xs, k, j, w, rfl, rfl, hx', hk.1, hk.2, by rw [ra.length]; exact ej, f1, q w y _ _ h1 r3 (g1.trans g3) (R.grow g3 _ _ f2)⟩
/-- x.pop() -/
def dxPop (i : Nat) : DX := fun ρ P => dEntOwn ρ i fun ds => optP ds[ds.length - 1]? fun y => P y (ρ.set i (some (Ent.own (.lst ds.dropLast))))
theorem RA.dropLast {H : Hp} {ds : List D} {vs : List V} (h : RA K H ds vs) : RA K H ds.dropLast vs.dropLast := by
  rw [List.dropLast_eq_take, List.dropLast_eq_take, h.length]
  exact h.take _
theorem sx_pop {i : Nat} : SimX K c H0 (tBM0 K "list" rPop (tVar i)) (dxPop i) := by
  intro ρ P hd O σ H Q rp q
  obtain ⟨ds, e0, hd⟩ := entOwn hd
  obtain ⟨p, _, hv, hp, hx, xs, rfl, ra⟩ := rp.own i _ e0
  refine ⟨.ref p, hv, tyV_lst hx, ?_⟩
  obtain ⟨y, ey, hd⟩ := optP_some hd
  obtain ⟨w, f1, f2⟩ := ra.get' ey
  obtain ⟨r3, g3⟩ := rp.chg e0 hv hp (es := .lst _) (ys := .lst _) ⟨_, rfl, ra.dropLast⟩
  exact ⟨p, xs, w, rfl, rfl, hx, by rw [ra.length]; exact f1, q w y _ _ hd r3 g3 (R.grow g3 _ _ f2)⟩
/-- y = (such an expression) -/
def dAsgX (dx : DX) (i : Nat) : DS := fun Dd ρ => dx ρ fun d ρ' => Dd.nx (ρ'.set i (some (Ent.val d)))
theorem sim_asgX {i : Nat} {dx : DX} (h : SimX K c H0 te dx) : SimS K c H0 (tAsg te (gName i)) (dAsgX dx i) := by
  intro Dd ρ hd O σ H Dn F rp g R
  exact h ρ _ hd O σ H _ rp fun v d ρ' H1 h1 rp1 g1 rv => R.nx _ O _ H1 h1 (rp1.setVal i rv) (g.trans g1)
/-- x[k] = e of an own list -/
def dSetIx (i : Nat) (de dk : DE) : DS := fun Dd ρ => de ρ fun d b => dEntOwn ρ i fun ds => dk ρ fun k _ => b = false ∧ asInt k fun k => optP (ixN ds.length k) fun j => Dd.nx (ρ.set i (some (Ent.own (.lst (ds.set j d)))))
theorem sim_setIx {i : Nat} (he : SimE K c H0 te de) (hk : SimE K c H0 ta da) : SimS K c H0 (tAsg te (gSub (tVar i) ta rSetL)) (dSetIx i de da) := by
  intro Dd ρ hd O σ H Dn F rp g R
  refine he ρ _ hd O σ H _ rp fun v d b H1 h1 rp1 e1 rv => ?_
  obtain ⟨ds, e0, h1⟩ := entOwn h1
  obtain ⟨p, _, hv, hp, hx0, xs0, rfl, _⟩ := rp1.own i _ e0
  refine ⟨.ref p, hv, ?_⟩
  refine hk ρ _ h1 O σ H1 _ rp1 fun u k b' H2 h2 rp2 e2 ru => ?_
  obtain ⟨hb, h2⟩ := h2
  subst hb
  obtain ⟨k', _, rfl, h2⟩ := rb_int ru h2
  obtain ⟨p', _, hv', hp', hx, xs, rfl, ra⟩ := rp2.own i _ e0
  have : p' = p := by
    have := hv'.symm.trans hv
    injection this with this
    injection this with this
    injection this
  subst this
  obtain ⟨j, ej, h2⟩ := optP_some h2
  obtain ⟨r3, g3⟩ := rp2.chg e0 hv' hp' (es := .lst _) (ys := .lst _) ⟨_, rfl, ra.set j (QD.R.grow (e2.but fun a z => List.mem_append_left _ (c.sub a z)) _ _ rv)⟩
  exact ⟨p', xs, k', j, rfl, rfl, hx, by rw [ra.length]; exact ej, R.nx _ O σ _ h2 r3 ((g.ex (e1.trans e2)).trans g3)⟩
/-- an own list is not changed any more -/
def frz1 (ρ : DEnv) (i : Nat) : Option (Option Ent) → DEnv
  | some (some (.own ds)) => ρ.set i (some (Ent.val ds))
  | _ => ρ
def freeze (i : Nat) (ρ : DEnv) : DEnv := frz1 ρ i ρ[i]?
theorem Rep.less2 {O O' : List Addr} {H : Hp} {σ : St} {ρ : DEnv} {i : Nat} {ds : D} (r : Rep K c H0 O H σ ρ) (he : ρ[i]? = some (some (Ent.own ds))) : ∃ O', Rep K c H0 O' H σ (ρ.set i (some (Ent.val ds))) ∧ Grow (but H (c.M ++ O)) (but H (c.M ++ O')) := by
  obtain ⟨p, xs, hv, hp, hx, ra⟩ := r.own i ds he
  have hi : i < ρ.length := (List.getElem?_eq_some_iff.mp he).1
  refine ⟨O.filter fun a => decide (a ≠ p), ?_⟩
  have sub : ∀ a, a ∈ O.filter (fun a => decide (a ≠ p)) → a ∈ O ∧ a ≠ p := fun a h => by
    have := List.mem_filter.mp h
    exact ⟨this.1, of_decide_eq_true this.2⟩
  have g : Grow (but H (c.M ++ O)) (but H (c.M ++ O.filter fun a => decide (a ≠ p))) := but_le fun a z => (List.mem_append.mp z).elim (fun q => List.mem_append_left _ q) fun q => List.mem_append_right _ (sub a q).1
  refine ⟨⟨r.inv0, r.inv, r.ent, fun a h => r.fresh a (sub a h).1, fun a h => r.liv a (sub a h).1, by rw [List.length_set]; exact r.len, fun k d q => ?_, fun k es q => ?_, fun k j es fs q' q1 q2 z1 z2 => ?_, fun x C fs hm q => ?_⟩, g⟩
  · by_cases hk : i = k
    · subst hk
      rw [List.getElem?_set_self hi] at q
      cases q
      refine ⟨_, hv, OwnR.R (but_of (fun z => ?_) hx) (ra.grow g)⟩
      rcases List.mem_append.mp z with z | z
      · exact r.notM hp z
      · exact (sub p z).2 rfl
    · rw [List.getElem?_set_ne hk] at q
      obtain ⟨v, h1, h2⟩ := r.val k d q
      exact ⟨v, h1, R.grow g d v h2⟩
  · by_cases hk : i = k
    · subst hk
      rw [List.getElem?_set_self hi] at q
      cases q
    · rw [List.getElem?_set_ne hk] at q
      obtain ⟨q', ys, h1, h2, h3, h4⟩ := r.own k es q
      refine ⟨q', ys, h1, List.mem_filter.mpr ⟨h2, decide_eq_true fun z => ?_⟩, h3, h4.grow g⟩
      exact hk (r.sep k i es ds p q he (z ▸ h1) hv).symm
  · have no : ∀ (k : Nat) (es : D), (ρ.set i (some (Ent.val ds)))[k]? = some (some (Ent.own es)) → ρ[k]? = some (some (Ent.own es)) := fun k es q => by
      by_cases hk : i = k
      · subst hk
        rw [List.getElem?_set_self hi] at q
        cases q
      · rwa [List.getElem?_set_ne hk] at q
    exact r.sep k j es fs q' (no k es q1) (no j fs q2) z1 z2
  · by_cases hk : i = 0
    · subst hk
      rw [List.getElem?_set_self hi] at q
      cases q
    · rw [List.getElem?_set_ne hk] at q
      exact r.me x C fs hm q
def dFreeze (i : Nat) (ds : DS) : DS := fun Dd ρ => ds Dd (freeze i ρ)
theorem sim_freeze (i : Nat) {ts : TS} {ds : DS} (h : SimS K c H0 ts ds) : SimS K c H0 ts (dFreeze i ds) := by
  intro Dd ρ hd O σ H Dn F rp g R
  unfold dFreeze freeze frz1 at hd
  split at hd
  · rename_i es e
    obtain ⟨O', rp', g'⟩ := rp.less2 (O' := O) e
    exact h Dd _ hd O' σ H Dn F rp' (g.trans g') R
  · exact h Dd ρ hd O σ H Dn F rp g R
end

/-! ### calls -/
abbrev DEr := Addr → List (Str × D) → Prop
abbrev DF := Option (Addr × Addr) → List D → (D → Prop) → DEr → Prop
/-- a def's promise by data -/
def spD (K : PySem.W.Frag) (n : Nat) (dT : DF) : Sp := fun vs H Q E => ∃ (c : Fm) (ds : List D) (P : D → Prop) (Er : DEr), ds.length = n ∧ c.I H ∧ RA K (but H c.M) ds vs ∧ dT c.bag ds P Er ∧
  (∀ v d H', P d → c.I H' → Ex c.S H H' → R K (but H' c.M) d v → Q v H') ∧
  (∀ C d gs fs H', Er C fs → c.I H' → Ex c.S H H' → H' d = some (.xd gs) → RF K (but H' c.M) fs gs → E (.ref C) (some d) H')
def dCall (bag : Option (Addr × Addr)) (n : Nat) (dT : DF) (dd : List D) (da : DA) : DE := fun ρ P => da ρ fun xs b => (xs ++ dd).length = n ∧ dT bag (xs ++ dd) (fun z => P z (dirt z b)) fun _ _ => False
section
variable {K : PySem.W.Frag} {c : Fm} {H0 : Hp}
theorem sim_callD {n : Nat} {dT : DF} {dvs : List V} {dd : List D} {E : XK} {t : TA} {da : DA} (hd : ∀ H, RA K H dd dvs) (ha : SimA K c H0 t da) : SimE K c H0 (tCall (spD K n dT) dvs E t) (dCall c.bag n dT dd da) := by
  intro ρ P h O σ H Q rp q
  refine ha ρ _ h O σ H _ rp fun vs xs b H1 h1 rp1 e1 rx => ?_
  cases b with
  | true => exact ⟨c, xs ++ dd, _, _, h1.1, rp1.inv, RA.app rx (hd _), h1.2, fun v d H' hp i ex r => q v d _ H' hp (rp1.up ex i) (e1.trans ex) (RB.dirt (b := true) r), fun C d gs fs H' hf => hf.elim⟩
  | false => exact ⟨rp1.fm, xs ++ dd, _, _, h1.1, ⟨rp1.inv, rp1.liv⟩, RA.app rx (hd _), h1.2, fun v d H' hp i ex r => q v d _ H' hp (rp1.up ex i.1) (e1.trans ex) (RB.dirt (b := false) r), fun C d gs fs H' hf => hf.elim⟩
theorem sim_call {n : Nat} {dT : DF} {E : XK} {t : TA} {da : DA} (ha : SimA K c H0 t da) : SimE K c H0 (tCall (spD K n dT) [] E t) (dCall c.bag n dT [] da) := sim_callD (dd := []) (fun _ => rfl) ha
end

/-! ### a def -/
def dstart (n : Nat) (ds : List D) : DEnv := ds.map (fun d => some (Ent.val d)) ++ List.replicate (n - ds.length) none
theorem rep_start {K : PySem.W.Frag} {c : Fm} {H : Hp} {N : List Str} {ds : List D} {vs : List V} (i : c.I H) (ra : RA K (but H c.M) ds vs) : Rep K c H [] H (L2.start N vs) (dstart N.length ds) := by
  have hl := ra.length
  refine ⟨i, i, Ex.refl H, fun a h => by simp at h, fun a h => by simp at h, ?_, fun k d q => ?_, fun k es q => ?_, fun k j es fs p q1 q2 => ?_, fun x C fs hm q => ?_⟩
  · unfold L2.start dstart
    rw [List.length_append, List.length_append, List.length_map, List.length_map, List.length_replicate, List.length_replicate, hl]
  · unfold dstart at q
    unfold L2.start
    by_cases hk : k < ds.length
    · rw [List.getElem?_append_left (by simpa using hk), List.getElem?_map] at q
      rw [List.getElem?_append_left (by simpa [hl] using hk), List.getElem?_map]
      obtain ⟨e, e1, e2⟩ := Option.map_eq_some_iff.mp q
      cases e2
      obtain ⟨v, h1, h2⟩ := ra.get' e1
      exact ⟨v, by rw [h1]; rfl, by rw [List.append_nil]; exact h2⟩
    · rw [List.getElem?_append_right (by simpa using hk), List.getElem?_replicate] at q
      split at q <;> cases q
  · unfold dstart at q
    by_cases hk : k < ds.length
    · rw [List.getElem?_append_left (by simpa using hk), List.getElem?_map] at q
      obtain ⟨e, e1, e2⟩ := Option.map_eq_some_iff.mp q
      cases e2
    · rw [List.getElem?_append_right (by simpa using hk), List.getElem?_replicate] at q
      split at q <;> cases q
  · unfold dstart at q1
    by_cases hk : k < ds.length
    · rw [List.getElem?_append_left (by simpa using hk), List.getElem?_map] at q1
      obtain ⟨e, e1, e2⟩ := Option.map_eq_some_iff.mp q1
      cases e2
    · rw [List.getElem?_append_right (by simpa using hk), List.getElem?_replicate] at q1
      split at q1 <;> cases q1
  · unfold dstart at q
    by_cases hk : 0 < ds.length
    · rw [List.getElem?_append_left (by simpa using hk), List.getElem?_map] at q
      obtain ⟨e, e1, e2⟩ := Option.map_eq_some_iff.mp q
      cases e2
    · rw [List.getElem?_append_right (by simpa using hk), List.getElem?_replicate] at q
      split at q <;> cases q
theorem okD {P : Program} {w : World} {K : PySem.W.Frag} {mg : Str → Option Value} {base : Heap} {x qual : Str} {st : Stmt} {f : Addr} {fd : FuncData} {N ps : List Str} {k n : Nat} {dT : DF} (F : Fun K x qual st f fd) (S : FnScope N ps (defScope st)) (hn : ps.length = n)
    (hbody : ∀ (cdv : Value) (A : Around) (outer : List Env) (s : Shared) (H : Hp) (E : XK) (c : Fm), Room k (A.deeper (PyProof.Rows.envOfC qual (defScope st) s.heap.objs.size f cdv)) →
      ∃ ts dsb, PSs (cxOf CX0 P w K mg base N qual (defScope st) f cdv A outer s H E).nox (defBody st) ts ∧ SimS K c H ts dsb ∧ ∀ ds Pd Er, ds.length = n → dT c.bag ds Pd Er → dsb { nx := fun _ => Pd .non, rt := Pd } (dstart N.length ds)) :
    FnOk P w K mg base CX0 (k + 1) f fd ps (spD K n dT) := by
  refine F.ok S (fun vs H Q E h => ?_) (fun cdv A outer s H vs Q E hr h => ?_)
  · obtain ⟨c, ds, _, _, hl, _, ra, _⟩ := h
    rw [ra.length, hl, hn]
  · obtain ⟨c, ds, Pd, Er, hl, i, ra, hd, q, qe⟩ := h
    obtain ⟨ts, dsb, hp, hs, hb⟩ := hbody cdv A outer s H E c hr
    refine ⟨ts, hp, ?_⟩
    refine hs _ _ (hb ds Pd Er hl hd) [] _ H _ (but H c.M) (rep_start i ra) (by rw [List.append_nil]; exact Grow.refl _) ⟨fun ρ O σ H' h rp _ => q _ _ H' h rp.inv rp.ent rfl, fun v d H' h i ex r => q v d H' h i ex r, fun ρ O σ H' h => h.elim, fun ρ O σ H' h => h.elim⟩
end QD

/-! QD8: zip, enumerate, keywords, two names at once, powers. -/
namespace QD
open PySem L2

def rPow : R2 := rI CPow fun i j => .int (i ^ j.toNat)
theorem q_pow {X : Cx} : OpR X (binaryOp .Pow) rPow := op_pow
abbrev dPow : DR := dIC CPow fun i j => .int (i ^ j.toNat)
section
variable {K : PySem.W.Frag} {c : Fm} {H0 : Hp} {ta tb te : TE} {da db de : DE}
theorem sr_pow : SimR K c H0 rPow dPow := sr_IC fun _ _ _ => rfl
def dNeg : DU
  | .int i, P => P (.int (-i))
  | _, _ => False
theorem su_neg : SimU K c H0 (rU fun i => .int (-i)) dNeg := by
  intro x P h O H Q v b σ ρ rp rx q
  cases x with
  | int i => exact ⟨i, rx, q _ _ H h (Ex.refl H) rp.inv rfl⟩
  | non => exact h.elim
  | bl _ => exact h.elim
  | str _ => exact h.elim
  | lst _ => exact h.elim
  | tup _ => exact h.elim
  | ins _ _ => exact h.elim
  | lam _ => exact h.elim
  | dk _ => exact h.elim
  | dt _ => exact h.elim
  | raw _ => exact h.elim

/-! ### zip of two lists, of two tuples -/
def zipD (xs ys : List D) : List D := (xs.zip ys).map fun p => .tup [p.1, p.2]
def zip2 : D → D → (List D → Prop) → Prop
  | .lst xs, .lst ys, P => P (zipD xs ys)
  | .tup xs, .tup ys, P => P (zipD xs ys)
  | _, _, _ => False
def dZip (a b : DE) : DI := fun ρ P => a ρ fun x c1 => b ρ fun y c2 => (c1 = false ∧ c2 = false) ∧ zip2 x y P
theorem zipD_get {xs ys : List D} {i : Nat} {d : D} (h : (zipD xs ys)[i]? = some d) : ∃ a b, xs[i]? = some a ∧ ys[i]? = some b ∧ d = .tup [a, b] := by
  unfold zipD at h
  rw [List.getElem?_map] at h
  obtain ⟨p, e, rfl⟩ := Option.map_eq_some_iff.mp h
  rw [List.getElem?_zip_eq_some] at e
  exact ⟨p.1, p.2, e.1, e.2, rfl⟩
theorem walkD_zip {F : Hp} {a b : Addr} {xs ys : List V} {ds es : List D} (h1 : SqL K F a xs) (h2 : SqL K F b ys) (r1 : RA K F ds xs) (r2 : RA K F es ys) : WalkD K F (Itz K a b) (zipD ds es) := by
  refine ⟨fun H => SqL K H a xs ∧ SqL K H b ys, YPair (fun i => xs[i]?) (fun i => ys[i]?), ?_, fun H g => ⟨grow_l g h1, grow_l g h2⟩, fun i H x H' d e y => .inr ?_⟩
  · refine walk_zip ?_
    unfold zipD
    rw [List.length_map, List.length_zip, r1.length, r2.length]
  · obtain ⟨T, x1, x2, f1, f2, f3, f4, f5⟩ := y
    obtain ⟨a', b', g1, g2, g3⟩ := zipD_get e
    obtain ⟨v, k1, k2⟩ := r1.get' g1
    obtain ⟨w, k3, k4⟩ := r2.get' g2
    have e1 : x1 = v := by have := f4.symm.trans k1; injection this
    have e2 : x2 = w := by have := f5.symm.trans k3; injection this
    subst e1 e2
    exact ⟨T, a', b', x1, x2, g3, f1, f2, f3, k2, k4⟩
theorem walk_zipT' {a b : Addr} {xs ys : List V} {n : Nat} (hn : n = min xs.length ys.length) : Walk (RZ.ItzT K a b) n (fun H => SqT K H a xs ∧ SqT K H b ys) (YPair (fun i => xs[i]?) (fun i => ys[i]?)) := by
  subst hn
  constructor
  · intro i H hi hq
    have l1 : i < xs.length := by omega
    have l2 : i < ys.length := by omega
    exact ⟨xs, ys, xs[i], ys[i], hq.1, hq.2, by simp [l1], by simp [l2]⟩
  · intro H hq
    exact ⟨xs, ys, hq.1, hq.2, by omega⟩
  · intro i H v H' hi hq y
    obtain ⟨T, x, z, p1, p2, p3, p4, p5⟩ := y
    exact ⟨T, x, z, p1, p2, p3, p4 xs hq.1, p5 ys hq.2⟩
theorem walkD_zipT {F : Hp} {a b : Addr} {xs ys : List V} {ds es : List D} (h1 : SqT K F a xs) (h2 : SqT K F b ys) (r1 : RA K F ds xs) (r2 : RA K F es ys) : WalkD K F (RZ.ItzT K a b) (zipD ds es) := by
  refine ⟨fun H => SqT K H a xs ∧ SqT K H b ys, YPair (fun i => xs[i]?) (fun i => ys[i]?), ?_, fun H g => ⟨grow_t g h1, grow_t g h2⟩, fun i H x H' d e y => .inr ?_⟩
  · refine walk_zipT' ?_
    unfold zipD
    rw [List.length_map, List.length_zip, r1.length, r2.length]
  · obtain ⟨T, x1, x2, f1, f2, f3, f4, f5⟩ := y
    obtain ⟨a', b', g1, g2, g3⟩ := zipD_get e
    obtain ⟨v, k1, k2⟩ := r1.get' g1
    obtain ⟨w, k3, k4⟩ := r2.get' g2
    have e1 : x1 = v := by have := f4.symm.trans k1; injection this
    have e2 : x2 = w := by have := f5.symm.trans k3; injection this
    subst e1 e2
    exact ⟨T, a', b', x1, x2, g3, f1, f2, f3, k2, k4⟩
theorem si_zip (ha : SimE K c H0 ta da) (hb : SimE K c H0 tb db) : SimI K c H0 (RZ.iZipA K (tCons ta (tCons tb tNil))) (dZip da db) := by
  intro ρ P h O σ H Rr rp q
  refine ha ρ _ h O σ H _ rp fun v x c1 H1 h1 rp1 e1 rx => ?_
  refine hb ρ _ h1 O σ H1 _ rp1 fun u y c2 H2 h2 rp2 e2 ry => ?_
  obtain ⟨⟨z1, z2⟩, h2⟩ := h2
  subst z1 z2
  have rx := rx.up e2
  unfold zip2 at h2
  split at h2
  · obtain ⟨a, xs, rfl, f1, f2⟩ := id rx
    obtain ⟨b, ys, rfl, f3, f4⟩ := id ry
    exact ⟨a, b, xs, ys, rfl, .inl ⟨.inl (.inl (tracked_of f1)), .inl (.inl (tracked_of f3)), q _ _ H2 h2 rp2 (e1.trans e2) (walkD_zip (.inl (.inl f1)) (.inl (.inl f3)) f2 f4)⟩⟩
  · obtain ⟨a, xs, rfl, f1, f2⟩ := id rx
    obtain ⟨b, ys, rfl, f3, f4⟩ := id ry
    exact ⟨a, b, xs, ys, rfl, .inr ⟨grow_t but_grow f1, grow_t but_grow f3, q _ _ H2 h2 rp2 (e1.trans e2) (walkD_zipT f1 f3 f2 f4)⟩⟩
  · exact h2.elim

/-! ### enumerate -/
def enumD (xs : List D) : List D := (List.range xs.length).map fun (i : Nat) => .tup [.int (i : Int), xs.getD i .non]
def enum1 : D → (List D → Prop) → Prop
  | .lst xs, P => P (enumD xs)
  | _, _ => False
def dEnum (a : DE) : DI := fun ρ P => a ρ fun x c1 => c1 = false ∧ enum1 x P
theorem walkD_enum {F : Hp} {a : Addr} {xs : List V} {ds : List D} (h1 : SqL K F a xs) (r1 : RA K F ds xs) : WalkD K F (Ite K a) (enumD ds) := by
  refine ⟨fun H => SqL K H a xs, YPair (fun i => some (.int (i : Nat))) (fun i => xs[i]?), ?_, fun H g => grow_l g h1, fun i H x H' d e y => .inr ?_⟩
  · have e : (enumD ds).length = xs.length := by unfold enumD; rw [List.length_map, List.length_range, r1.length]
    rw [e]
    exact walk_enum
  · obtain ⟨T, x1, x2, f1, f2, f3, f4, f5⟩ := y
    unfold enumD at e
    rw [List.getElem?_map] at e
    obtain ⟨k, e1, rfl⟩ := Option.map_eq_some_iff.mp e
    obtain ⟨hk, e2⟩ := List.getElem?_eq_some_iff.mp e1
    rw [List.getElem_range] at e2
    subst e2
    rw [List.length_range] at hk
    obtain ⟨v, k1, k2⟩ := r1.get' (List.getElem?_eq_getElem hk)
    have z1 : x2 = v := by have := f5.symm.trans k1; injection this
    have z2 : x1 = .int (i : Nat) := by injection f4 with f4; exact f4.symm
    subst z1 z2
    refine ⟨T, _, _, _, _, rfl, f1, f2, f3, rfl, ?_⟩
    rw [List.getD_eq_getElem?_getD, List.getElem?_eq_getElem hk]
    exact k2
theorem si_enum (ha : SimE K c H0 ta da) : SimI K c H0 (iEnum K (tCons ta tNil)) (dEnum da) := by
  intro ρ P h O σ H Rr rp q
  refine ha ρ _ h O σ H _ rp fun v x c1 H1 h1 rp1 e1 rx => ?_
  obtain ⟨z1, h2⟩ := h1
  subst z1
  unfold enum1 at h2
  split at h2
  · obtain ⟨a, xs, rfl, f1, f2⟩ := id rx
    exact ⟨a, xs, rfl, .inl (.inl (tracked_of f1)), q _ _ H1 h2 rp1 e1 (walkD_enum (.inl (.inl f1)) f2)⟩
  · exact h2.elim

/-! ### a, b = x, y -/
def dParVV (i j : Nat) (da db : DE) : DS := fun Dd ρ => da ρ fun x b => db ρ fun y b' => (b = false ∧ b' = false) ∧ Dd.nx ((ρ.set i (some (Ent.val x))).set j (some (Ent.val y)))
theorem sim_parVV {i j : Nat} (ha : SimE K c H0 ta da) (hb : SimE K c H0 tb db) (hij : i ≠ j) : SimS K c H0 (tPar i j (tCons ta (tCons tb tNil))) (dParVV i j da db) := by
  intro Dd ρ h O σ H Dn F rp g R
  refine ha ρ _ h O σ H _ rp fun v x b H1 h1 rp1 e1 rx => ?_
  refine hb ρ _ h1 O σ H1 _ rp1 fun u y b' H2 h2 rp2 e2 ry => ?_
  obtain ⟨⟨z1, z2⟩, h2⟩ := h2
  subst z1 z2
  exact ⟨v, u, rfl, R.nx _ O _ H2 h2 ((rp2.setVal i (rx.up e2)).setVal j ry) (g.ex (e1.trans e2))⟩
def dParOV (i j : Nat) (da : DN) (db : DE) : DS := fun Dd ρ => da ρ fun xs => db ρ fun y b' => b' = false ∧ Dd.nx ((ρ.set i (some (Ent.own (.lst xs)))).set j (some (Ent.val y)))
theorem sim_parOV {i j : Nat} {dn : DN} (ha : SimN K c H0 ta dn) (hb : SimE K c H0 tb db) (hij : i ≠ j) : SimS K c H0 (tPar i j (tCons ta (tCons tb tNil))) (dParOV i j dn db) := by
  intro Dd ρ h O σ H Dn F rp g R
  refine ha ρ _ h O σ H _ rp fun p xs ds H1 h1 rp1 hno hx ra g1 _ _ => ?_
  refine hb ρ _ h1 (p :: O) σ H1 _ rp1 fun u y b' H2 h2 rp2 e2 ry => ?_
  obtain ⟨z2, h2⟩ := h2
  subst z2
  have hpS : p ∉ c.S := rp1.notS List.mem_cons_self
  have g2 := e2.but (M := c.M ++ p :: O) fun a z => List.mem_append_left _ (c.sub a z)
  exact ⟨.ref p, u, rfl, R.nx _ (p :: O) _ H2 h2 ((rp2.setOwn i List.mem_cons_self (e2 _ _ hx hpS) (ds := .lst _) ⟨_, rfl, RA.grow g2 _ _ ra⟩ fun k es _ => hno k es).setVal j ry) ((g.trans g1).trans g2)⟩
def dParVO (i j : Nat) (da : DE) (db : DN) : DS := fun Dd ρ => da ρ fun x b => db ρ fun ys => b = false ∧ Dd.nx ((ρ.set i (some (Ent.val x))).set j (some (Ent.own (.lst ys))))
theorem own_set_val {ρ : DEnv} {σ : St} {p : Addr} {i : Nat} {d : D} {v : V} (hno : ∀ (k : Nat) (es : D), ρ[k]? = some (some (Ent.own es)) → σ[k]? ≠ some (some (.ref p))) :
    ∀ (k : Nat) (es : D), (ρ.set i (some (Ent.val d)))[k]? = some (some (Ent.own es)) → (σ.set i (some v))[k]? ≠ some (some (.ref p)) := fun k es e => by
  by_cases hk : i = k
  · subst hk
    have hl : i < ρ.length := by
      have := (List.getElem?_eq_some_iff.mp e).1
      rwa [List.length_set] at this
    rw [List.getElem?_set_self hl] at e
    cases e
  · rw [List.getElem?_set_ne hk] at e ⊢
    exact hno k es e
theorem sim_parVO {i j : Nat} {dn : DN} (ha : SimE K c H0 ta da) (hb : SimN K c H0 tb dn) (hij : i ≠ j) : SimS K c H0 (tPar i j (tCons ta (tCons tb tNil))) (dParVO i j da dn) := by
  intro Dd ρ h O σ H Dn F rp g R
  refine ha ρ _ h O σ H _ rp fun v x b H1 h1 rp1 e1 rx => ?_
  refine hb ρ _ h1 O σ H1 _ rp1 fun p ys ds H2 h2 rp2 hno hx ra g2 _ _ => ?_
  obtain ⟨z2, h2⟩ := h2
  subst z2
  exact ⟨v, .ref p, rfl, R.nx _ (p :: O) _ H2 h2 ((rp2.setVal i (QD.R.grow g2 _ _ rx)).setOwn j List.mem_cons_self hx (ds := .lst _) ⟨_, rfl, ra⟩ fun k es _ => own_set_val hno k es) ((g.ex e1).trans g2)⟩
def dParOO (i j : Nat) (da db : DN) : DS := fun Dd ρ => da ρ fun xs => db ρ fun ys => Dd.nx ((ρ.set i (some (Ent.own (.lst xs)))).set j (some (Ent.own (.lst ys))))
theorem sim_parOO {i j : Nat} {dn dm : DN} (ha : SimN K c H0 ta dn) (hb : SimN K c H0 tb dm) (hij : i ≠ j) : SimS K c H0 (tPar i j (tCons ta (tCons tb tNil))) (dParOO i j dn dm) := by
  intro Dd ρ h O σ H Dn F rp g R
  refine ha ρ _ h O σ H _ rp fun p xs ds H1 h1 rp1 hno hx ra g1 _ _ => ?_
  refine hb ρ _ h1 (p :: O) σ H1 _ rp1 fun p2 ys es H2 h2 rp2 hno2 hx2 ra2 g2 e2 hp2 => ?_
  have hpS : p ∉ c.S := rp1.notS List.mem_cons_self
  have hx' := e2 _ _ hx hpS
  have hne : p2 ≠ p := fun e => hp2 (e ▸ List.mem_cons_self)
  have r1 := rp2.setOwn i (List.mem_cons_of_mem _ List.mem_cons_self) hx' (ds := .lst _) ⟨_, rfl, RA.grow g2 _ _ ra⟩ fun k es _ => hno k es
  refine ⟨.ref p, .ref p2, rfl, R.nx _ (p2 :: p :: O) _ H2 h2 (r1.setOwn j List.mem_cons_self hx2 (ds := .lst _) ⟨_, rfl, ra2⟩ fun k es hk e z => ?_) ((g.trans g1).trans g2)⟩
  by_cases hki : i = k
  · subst hki
    have hl : i < ρ.length := by
      have := (List.getElem?_eq_some_iff.mp e).1
      rwa [List.length_set] at this
    rw [List.getElem?_set_self (by rw [rp.len]; exact hl)] at z
    injection z with z
    injection z with z
    injection z with z
    exact hne z.symm
  · rw [List.getElem?_set_ne hki] at e z
    exact hno2 k es e z
end

/-! ### keywords -/
section
variable {K : PySem.W.Frag} {c : Fm} {H0 : Hp}
theorem pe_callN0 {X : Cx} {CX : CXT} {k : Nat} {f : Addr} {fd : FuncData} {ps ks : List Str} {sp : Sp} {E : XK} {x : Str} {p pos : Pos} {kws : List Keyword} {tk : TA} {g : List Value → List Value → List Value} {gV : List V → List V → List V}
    (F : FnOk X.prog X.w X.K X.mg X.base CX k f fd ps sp) (hr : Room k X.A) (hg : Gl X x) (hm : X.mg x = some (.ref f)) (hk : PySem.W.keepIn X.K (.ref f) = true) (hb : KBn X.K fd ps 0 ks g gV) (hx : Passes CX X E) (hkw : PK X kws tk)
    (hall : (backToKw pos (keywordEach kws X.env)).all (·.1.isSome) = true := by rfl) (hks : (backToKw pos (keywordEach kws X.env)).filterMap (·.1) = ks := by rfl) (hdb : (x == ("__debug__" : Str)) = false := by decide)
    (hpl : ((backTo pos (starEach [] X.env)).any (·.1) || (backToKw pos (keywordEach kws X.env)).any (·.1.isNone)) = false := by rfl) : PE X (.Call (.Name x p) [] kws pos) (tCallN 0 ks.length sp gV E tNil tk) := by
  constructor
  intro pins s0 σ G Q I hw
  refine wpAny_Call_Name_kw (ld_glob I hg hm ?_ hdb)
  refine PySem.W.callWith_KW0 (h₀ := X.base) I.ok.mod.kin hk hall (thn (hkw.run pos pins s0 σ G _ I hw) fun ws s2 ev => ?_) hpl
  obtain ⟨zs, G2, J2, rz, l1, l2, q2⟩ := ev
  refine ⟨J2.kIn, ?_⟩
  rw [hks]
  exact run_fnN (us := []) (vs := []) F hr hb hx J2 .nil rz l1 l2 q2
/-- how keywords bind, of a def without defaults -/
theorem kb_of {x qual : Str} {st : Stmt} {f : Addr} {fd : FuncData} {ps : List Str} (F : Fun K x qual st f fd) (n : Nat) (ks : List Str) (g : {α : Type} → List α → List α → List α)
    (hrel : ∀ {vs zs : List V} {us ws : List Value}, Vals vs us → Vals zs ws → Vals (g vs zs) (g us ws))
    (h : ∀ (kV doc pm : Value) (an : Option Addr) (cdv ct : Value) (us ws : List Value), us.length = n → ws.length = ks.length → bindArgs (PySem.W.fnOf x qual (defArgs st) (defBody st) (defScope st) .none kV doc pm an cdv ct) ⟨us, ks.zip ws⟩ = pure (ps.zip (g us ws))) :
    KBn K fd ps n ks (fun us ws => g us ws) (fun vs zs => g vs zs) := by
  obtain ⟨oc, od, kV, doc, pm, an, cdv, ct, osl, rfl, lk, hcd⟩ := F.ex
  exact ⟨fun s us ws X l1 l2 => .of_eq (h kV doc pm an cdv ct us ws l1 l2), hrel⟩
def dCallN (bag : Option (Addr × Addr)) (n k m : Nat) (dT : DF) (gD : List D → List D → List D) (da dk : DA) : DE := fun ρ P => da ρ fun xs b => dk ρ fun ys b' => (xs.length = k ∧ ys.length = m) ∧ (gD xs ys).length = n ∧ dT bag (gD xs ys) (fun z => P z (dirt z (b || b'))) fun _ _ => False
theorem sim_callN {n k m : Nat} {dT : DF} {gV : List V → List V → List V} {gD : List D → List D → List D} {E : XK} {t tk : TA} {da dk : DA} (hg : ∀ {H : Hp} {xs ys : List D} {vs zs : List V}, RA K H xs vs → RA K H ys zs → RA K H (gD xs ys) (gV vs zs))
    (ha : SimA K c H0 t da) (hk : SimA K c H0 tk dk) : SimE K c H0 (tCallN k m (spD K n dT) gV E t tk) (dCallN c.bag n k m dT gD da dk) := by
  intro ρ P h O σ H Q rp q
  refine ha ρ _ h O σ H _ rp fun vs xs b H1 h1 rp1 e1 rx => ?_
  refine hk ρ _ h1 O σ H1 _ rp1 fun zs ys b' H2 h2 rp2 e2 ry => ?_
  obtain ⟨⟨l1, l2⟩, l3, h3⟩ := h2
  refine ⟨by rw [rx.len]; exact l1, by rw [ry.len]; exact l2, ?_⟩
  have rxy : RA K (but H2 (if (b || b') = true then c.M else c.M ++ O)) (gD xs ys) (gV vs zs) := hg (rx.up e2).or ry.or'
  generalize hb : (b || b') = bb at rxy h3
  cases bb with
  | true => exact ⟨c, gD xs ys, _, _, l3, rp2.inv, rxy, h3, fun v d H' hp i ex r => q v d _ H' hp (rp2.up ex i) ((e1.trans e2).trans ex) (RB.dirt (b := true) r), fun C d gs fs H' hf => hf.elim⟩
  | false => exact ⟨rp2.fm, gD xs ys, _, _, l3, ⟨rp2.inv, rp2.liv⟩, rxy, h3, fun v d H' hp i ex r => q v d _ H' hp (rp2.up ex i.1) ((e1.trans e2).trans ex) (RB.dirt (b := false) r), fun C d gs fs H' hf => hf.elim⟩
/-- keywords alone, in the parameters' order -/
theorem kb_all {x qual : Str} {st : Stmt} {f : Addr} {fd : FuncData} {ps ks : List Str} (F : Fun K x qual st f fd)
    (h : ∀ (kV doc pm : Value) (an : Option Addr) (cdv ct : Value) (ws : List Value), ws.length = ks.length → bindArgs (PySem.W.fnOf x qual (defArgs st) (defBody st) (defScope st) .none kV doc pm an cdv ct) ⟨[], ks.zip ws⟩ = pure (ps.zip ws)) :
    KBn K fd ps 0 ks (fun _ ws => ws) (fun _ zs => zs) := by
  obtain ⟨oc, od, kV, doc, pm, an, cdv, ct, osl, rfl, lk, hcd⟩ := F.ex
  exact ⟨fun s us ws X l1 l2 => by
    rw [List.length_eq_zero_iff.mp l1]
    exact .of_eq (h kV doc pm an cdv ct ws l2), fun _ r => r⟩
theorem sim_callK {n m : Nat} {dT : DF} {E : XK} {tk : TA} {dk : DA} (hk : SimA K c H0 tk dk) : SimE K c H0 (tCallN 0 m (spD K n dT) (fun _ zs => zs) E tNil tk) (dCallN c.bag n 0 m dT (fun _ ys => ys) dNil dk) :=
  sim_callN (fun _ r => r) sim_nil hk
end
end QD

/-! QD9: what simp is given. -/
namespace QD
open PySem L2

theorem ty_NoneType_str : isTy "NoneType" "str" = some false := by decide +kernel
theorem ty_NoneType_int : isTy "NoneType" "int" = some false := by decide +kernel
theorem ty_NoneType_bool : isTy "NoneType" "bool" = some false := by decide +kernel
theorem ty_NoneType_list : isTy "NoneType" "list" = some false := by decide +kernel
theorem ty_NoneType_tuple : isTy "NoneType" "tuple" = some false := by decide +kernel
theorem ty_bool_str : isTy "bool" "str" = some false := by decide +kernel
theorem ty_bool_int : isTy "bool" "int" = some true := by decide +kernel
theorem ty_bool_bool : isTy "bool" "bool" = some true := by decide +kernel
theorem ty_bool_list : isTy "bool" "list" = some false := by decide +kernel
theorem ty_bool_tuple : isTy "bool" "tuple" = some false := by decide +kernel
theorem ty_int_str : isTy "int" "str" = some false := by decide +kernel
theorem ty_int_int : isTy "int" "int" = some true := by decide +kernel
theorem ty_int_bool : isTy "int" "bool" = some false := by decide +kernel
theorem ty_int_list : isTy "int" "list" = some false := by decide +kernel
theorem ty_int_tuple : isTy "int" "tuple" = some false := by decide +kernel
theorem ty_str_str : isTy "str" "str" = some true := by decide +kernel
theorem ty_str_int : isTy "str" "int" = some false := by decide +kernel
theorem ty_str_bool : isTy "str" "bool" = some false := by decide +kernel
theorem ty_str_list : isTy "str" "list" = some false := by decide +kernel
theorem ty_str_tuple : isTy "str" "tuple" = some false := by decide +kernel
theorem ty_list_str : isTy "list" "str" = some false := by decide +kernel
theorem ty_list_int : isTy "list" "int" = some false := by decide +kernel
theorem ty_list_bool : isTy "list" "bool" = some false := by decide +kernel
theorem ty_list_list : isTy "list" "list" = some true := by decide +kernel
theorem ty_list_tuple : isTy "list" "tuple" = some false := by decide +kernel
theorem ty_tuple_str : isTy "tuple" "str" = some false := by decide +kernel
theorem ty_tuple_int : isTy "tuple" "int" = some false := by decide +kernel
theorem ty_tuple_bool : isTy "tuple" "bool" = some false := by decide +kernel
theorem ty_tuple_list : isTy "tuple" "list" = some false := by decide +kernel
theorem ty_tuple_tuple : isTy "tuple" "tuple" = some true := by decide +kernel
end QD

/-! QD10: the law's bag by hand; comprehensions that map; small mathematics. -/
namespace QD
open PySem L2

/-! ### ints out of a bag -/
def EvI (te : TE) (σ : L2.St) (H : Hp) (i : Int) : Prop := ∀ Q : VK, Q (.int i) H → te σ H Q
section
variable {K : PySem.W.Frag} {σ : L2.St} {H : Hp} {ta tb te : TE} {i j k : Int} {b a : Addr} {xs : List V} {n : Nat}
theorem ei_c : EvI (tC (.int i)) σ H i := fun _ q => q
theorem ei_var {s : Nat} (h : σ[s]? = some (some (.int i))) : EvI (tVar s) σ H i := fun _ q => ⟨_, h, q⟩
theorem ei_add (h1 : EvI ta σ H i) (h2 : EvI tb σ H j) : EvI (tOp gAdd ta tb) σ H (i + j) := fun _ q => h1 _ (h2 _ (.inl ⟨i, j, rfl, rfl, q⟩))
theorem ei_mul (h1 : EvI ta σ H i) (h2 : EvI tb σ H j) (hc : CMul i j) : EvI (tOp gMul ta tb) σ H (i * j) := fun _ q => h1 _ (h2 _ (.inl ⟨i, j, rfl, rfl, hc, q⟩))
theorem ei_mod (h1 : EvI ta σ H i) (h2 : EvI tb σ H j) (hc : 0 < j) : EvI (tOp gMod ta tb) σ H (i % j) := fun _ q => h1 _ (h2 _ ⟨i, j, rfl, rfl, hc, q⟩)
theorem ei_fdiv (h1 : EvI ta σ H i) (h2 : EvI tb σ H j) (hc : CDiv i j) : EvI (tOp gFdiv ta tb) σ H (i / j) := fun _ q => h1 _ (h2 _ ⟨i, j, rfl, rfl, hc, q⟩)
theorem ei_int (h1 : EvI ta σ H i) : EvI (tCB rInt1 (tCons ta tNil)) σ H i := fun _ q => h1 _ (.inl ⟨i, rfl, q⟩)
theorem ei_abs (h1 : EvI ta σ H i) : EvI (tCB rAbs (tCons ta tNil)) σ H (if i < 0 then -i else i) := fun _ q => h1 _ ⟨i, rfl, q⟩
theorem ei_ix (hs : σ[n]? = some (some (.ref b))) (hb : H b = some (.lst xs)) (hk : atI xs k = some (.int i)) : EvI (tOp (gIx K) (tVar n) (tC (.int k))) σ H i := fun _ q =>
  ⟨_, hs, .inl ⟨b, xs, k, _, rfl, rfl, .inl (.inl hb), hk, q⟩⟩
/-- bag[0][..] -/
theorem ei_ix2 {ys : List V} (hs : σ[n]? = some (some (.ref b))) (hb : H b = some (.lst xs)) (hk : atI xs k = some (.ref a)) (ha : H a = some (.lst ys)) (ht : EvI ta σ H j) (hj : atI ys j = some (.int i)) :
    EvI (tOp (gIx K) (tOp (gIx K) (tVar n) (tC (.int k))) ta) σ H i := fun _ q =>
  ⟨_, hs, .inl ⟨b, xs, k, _, rfl, rfl, .inl (.inl hb), hk, ht _ (.inl ⟨a, ys, j, _, rfl, rfl, .inl (.inl ha), hj, q⟩)⟩⟩
theorem ei_len {ys : List V} (hs : σ[n]? = some (some (.ref b))) (hb : H b = some (.lst xs)) (hk : atI xs k = some (.ref a)) (ha : H a = some (.lst ys)) :
    EvI (tCB (rLen K) (tCons (tOp (gIx K) (tVar n) (tC (.int k))) tNil)) σ H (ys.length : Int) := fun _ q =>
  ⟨_, hs, .inl ⟨b, xs, k, _, rfl, rfl, .inl (.inl hb), hk, _, ys.length, rfl, .inl ⟨ys, .inl (.inl ha), rfl⟩, q⟩⟩
/-- bag[k] = e -/
theorem ts_set {D : Ends} {m : Nat} (he : EvI te σ H i) (hs : σ[n]? = some (some (.ref b))) (hb : H b = some (.lst xs)) (hk : ixN xs.length k = some m) (q : D.nx σ (upd H b (.lst (xs.set m (.int i))))) :
    tAsg te (gSub (tVar n) (tC (.int k)) rSetL) D σ H := he _ ⟨_, hs, b, xs, k, m, rfl, rfl, hb, hk, q⟩
theorem ts_setName {D : Ends} {s : Nat} (he : EvI te σ H i) (q : D.nx (σ.set s (some (.int i))) H) : tAsg te (gName s) D σ H := he _ q
theorem ts_ret {D : Ends} (he : EvI te σ H i) (q : D.rt (.int i) H) : tRet te D σ H := he _ q
/-- a test of two ints -/
def EvB (tt : TT) (σ : L2.St) (H : Hp) (b : Bool) : Prop := ∀ Q : Bool → Hp → Prop, Q b H → tt σ H Q
theorem eb_eq {x y : Int} (h1 : EvI ta σ H x) (h2 : EvI tb σ H y) : EvB (tTest (tOp (gEq K) ta tb)) σ H (decide (x = y)) := fun Q q => h1 _ (h2 _ ⟨.int x, .int y, .int x, .int y, rfl, rfl, by
  refine ⟨_, rfl, ?_⟩
  have e : PyData.eqv (.int x) (.int y) = decide (x = y) := by
    simp only [PyData.eqv]
    exact Bool.eq_iff_iff.mpr (by simp)
  rw [e]
  exact q⟩)
theorem eb_II {f : Int → Int → Bool} (h1 : EvI ta σ H i) (h2 : EvI tb σ H j) : EvB (tTest (tOp (rI0 fun i j => .bl (f i j)) ta tb)) σ H (f i j) := fun Q q => h1 _ (h2 _ ⟨i, j, rfl, rfl, _, rfl, q⟩)
theorem eb_and {t u : TT} {p r : Bool} (h1 : EvB t σ H p) (h2 : p = true → EvB u σ H r) (h3 : p = false → r = false) : EvB (tAnd t u) σ H r := fun Q q => h1 _ (by
  cases p with
  | true => exact iteT (h2 rfl Q q)
  | false =>
    refine iteF ?_
    rw [h3 rfl] at q
    exact q)
end

theorem ts_cut {t u : TS} {D : Ends} {σ : L2.St} {H : Hp} (G : L2.St → Hp → Prop) (a : ∀ D' : Ends, D'.rt = D.rt → (∀ σ' H', G σ' H' → D'.nx σ' H') → t D' σ H) (b : ∀ σ' H', G σ' H' → u D σ' H') : tSeq t u D σ H := a _ rfl b
theorem ts_if {c : TT} {t u : TS} {D : Ends} {σ : L2.St} {H : Hp} {k : Bool} (hc : EvB c σ H k) (h1 : k = true → t D σ H) (h2 : k = false → u D σ H) : tIfS c t u D σ H := hc _ (by
  cases k with
  | true => exact iteT (h1 rfl)
  | false => exact iteF (h2 rfl))
/-- the bag's list -/
def bagL (a : Addr) (i1 i2 i3 i4 : Int) : List V := [.ref a, .int i1, .int i2, .int i3, .int i4]
/-- the bag within a draw: what stood ahead of it but the bag stands -/
structure BagSt (H : Hp) (b : Addr × Addr) (ns : List Int) (H' : Hp) (i1 i2 i3 i4 : Int) : Prop where
  at_ : H' b.1 = some (.lst (bagL b.2 i1 i2 i3 i4))
  ls : H' b.2 = some (.lst (ns.map V.int))
  ne : b.2 ≠ b.1
  keep : ∀ a o, H a = some o → a ≠ b.1 → H' a = some o
  len : ns.length ≤ 63
  p0 : 0 ≤ i1
  p1 : i1 ≤ (ns.length : Int)
  p2 : 0 ≤ i2
  p3 : 0 ≤ i3
  p4 : i3 < 4294967296
  p5 : 0 ≤ i4
theorem BagSt.set {H : Hp} {b : Addr × Addr} {ns : List Int} {H' : Hp} {i1 i2 i3 i4 j1 j2 j3 j4 : Int} (s : BagSt H b ns H' i1 i2 i3 i4) {xs : List V} (e : xs = bagL b.2 j1 j2 j3 j4) (p0 : 0 ≤ j1) (p1 : j1 ≤ (ns.length : Int)) (p2 : 0 ≤ j2) (p3 : 0 ≤ j3) (p4 : j3 < 4294967296) (p5 : 0 ≤ j4) :
    BagSt H b ns (upd H' b.1 (.lst xs)) j1 j2 j3 j4 := by
  subst e
  exact ⟨upd_same, by rw [upd_ne s.ne]; exact s.ls, s.ne, fun a o h n => by rw [upd_ne n]; exact s.keep a o h n, s.len, p0, p1, p2, p3, p4, p5⟩
theorem BagSt.fin {c : Fm} {H : Hp} {b : Addr × Addr} {ns : List Int} {H' : Hp} {i1 i2 i3 i4 : Int} (s : BagSt H b ns H' i1 i2 i3 i4) (hb : c.bag = some b) (iv : c.I H) (hM : b.2 ∉ c.M) : c.I H' ∧ Ex c.S H H' :=
  ⟨c.bP b hb H H' iv s.keep ⟨ns, i1, i2, i3, i4, s.at_, but_of hM s.ls, s.len, s.p0, s.p1, s.p2, s.p3, s.p4, s.p5⟩, fun a o h n => s.keep a o h fun e => n (e ▸ c.bS b hb)⟩
theorem ts_bag {D : Ends} {te : TE} {σ : L2.St} {H H' : Hp} {b : Addr × Addr} {ns : List Int} {i1 i2 i3 i4 j1 j2 j3 j4 i k : Int} {n m : Nat} (S : BagSt H b ns H' i1 i2 i3 i4) (he : EvI te σ H' i) (hs : σ[n]? = some (some (.ref b.1))) (hk : ixN 5 k = some m)
    (e : (bagL b.2 i1 i2 i3 i4).set m (.int i) = bagL b.2 j1 j2 j3 j4) (p0 : 0 ≤ j1) (p1 : j1 ≤ (ns.length : Int)) (p2 : 0 ≤ j2) (p3 : 0 ≤ j3) (p4 : j3 < 4294967296) (p5 : 0 ≤ j4) (q : ∀ H'', BagSt H b ns H'' j1 j2 j3 j4 → D.nx σ H'') :
    tAsg te (gSub (tVar n) (tC (.int k)) rSetL) D σ H' := ts_set he hs S.at_ hk (q _ (S.set e p0 p1 p2 p3 p4 p5))
theorem eb_ge {ta tb : TE} {σ : L2.St} {H : Hp} {i j : Int} (h1 : EvI ta σ H i) (h2 : EvI tb σ H j) : EvB (tTest (tOp gGe ta tb)) σ H (decide (i ≥ j)) := eb_II (f := fun i j => decide (i ≥ j)) h1 h2
theorem eb_gt {ta tb : TE} {σ : L2.St} {H : Hp} {i j : Int} (h1 : EvI ta σ H i) (h2 : EvI tb σ H j) : EvB (tTest (tOp gGt ta tb)) σ H (decide (i > j)) := eb_II (f := fun i j => decide (i > j)) h1 h2
theorem eb_lt {ta tb : TE} {σ : L2.St} {H : Hp} {i j : Int} (h1 : EvI ta σ H i) (h2 : EvI tb σ H j) : EvB (tTest (tOp gLt ta tb)) σ H (decide (i < j)) := eb_II (f := fun i j => decide (i < j)) h1 h2
theorem ei_pow {ta tb : TE} {σ : L2.St} {H : Hp} {i j : Int} (h1 : EvI ta σ H i) (h2 : EvI tb σ H j) (hc : CPow i j) : EvI (tOp rPow ta tb) σ H (i ^ j.toNat) := fun _ q => h1 _ (h2 _ ⟨i, j, rfl, rfl, hc, q⟩)
theorem cmulr {i j : Int} (h : -(2 ^ 64) < j ∧ j < 2 ^ 64) : CMul i j := .inr h

/-- what a draw promises: some number below many -/
def dtPull : DF := fun bag ds P _ => ∃ b n, bag = some b ∧ ds = [.raw (.ref b.1), .int n] ∧ 0 < n ∧ n < 1073741824 ∧ ∀ k, 0 ≤ k → k < n → P (.int k)
theorem dtPull_congr {bag : Option (Addr × Addr)} {ds ds' : List D} {P : D → Prop} {Er : DEr} (h : ds = ds') : dtPull bag ds P Er = dtPull bag ds' P Er := by rw [h]
/-- what the bag's making promises -/
def spBag (K : PySem.W.Frag) : Sp := fun vs H Q _ => ∃ (a : Addr) (ns : List Int), vs = [.ref a] ∧ SqL K H a (ns.map V.int) ∧ ns.length ≤ 63 ∧ ∀ (b : Addr × Addr) H', b.1 ≠ b.2 → BagAt [b.1] H' b → Q (.ref b.1) H'
def spLaw (K : PySem.W.Frag) : Sp := fun vs H Q _ => ∃ (a : Addr) (ns : List Int), vs = [.ref a] ∧ SqL K H a (ns.map V.int) ∧ ns.length ≤ 63 ∧ ∀ H', Q (.bl true) H'

/-! ### comprehensions that map -/
theorem lcGo_name {i : Nat} {de : DE} {vs : List Nat} {ρ : DEnv} (f : D → D) {P : List D → Prop} : ∀ (xs acc : List D),
    (∀ x, x ∈ xs → ∀ Q : D → Bool → Prop, Q (f x) false → de ((dwipe ρ vs).set i (some (Ent.val x))) Q) → acc.length + xs.length ≤ sizeLine → P (acc ++ xs.map f) → lcGo (dGName i) (fun _ P => P true) de vs ρ acc xs P
  | [], acc, _, _, h => by
    simp only [lcGo]
    simpa using h
  | x :: xs, acc, hx, hl, h => by
    simp only [lcGo, dGName, if_true]
    refine hx x List.mem_cons_self _ ⟨rfl, ?_, ?_⟩
    · rw [List.length_cons] at hl; omega
    · refine lcGo_name f xs (acc ++ [f x]) (fun y hy => hx y (List.mem_cons_of_mem _ hy)) ?_ ?_
      · rw [List.length_append, List.length_singleton]; rw [List.length_cons] at hl; omega
      · rw [List.append_assoc]; exact h
theorem lcGo_filter {i : Nat} {dt : DT} {de : DE} {vs : List Nat} {ρ : DEnv} (p : D → Bool) (f : D → D) {P : List D → Prop} : ∀ (xs acc : List D),
    (∀ x, x ∈ xs → ∀ Q : Bool → Prop, Q (p x) → dt ((dwipe ρ vs).set i (some (Ent.val x))) Q) → (∀ x, x ∈ xs → p x = true → ∀ Q : D → Bool → Prop, Q (f x) false → de ((dwipe ρ vs).set i (some (Ent.val x))) Q) →
    acc.length + xs.length ≤ sizeLine → P (acc ++ (xs.filter p).map f) → lcGo (dGName i) dt de vs ρ acc xs P
  | [], acc, _, _, _, h => by
    simp only [lcGo]
    simpa using h
  | x :: xs, acc, ht, hx, hl, h => by
    simp only [lcGo, dGName]
    rw [List.length_cons] at hl
    refine ht x List.mem_cons_self _ ?_
    cases hp : p x with
    | true =>
      rw [if_pos rfl]
      refine hx x List.mem_cons_self hp _ ⟨rfl, by omega, ?_⟩
      refine lcGo_filter p f xs (acc ++ [f x]) (fun y hy => ht y (List.mem_cons_of_mem _ hy)) (fun y hy => hx y (List.mem_cons_of_mem _ hy)) ?_ ?_
      · rw [List.length_append, List.length_singleton]; omega
      · rw [List.append_assoc]
        rw [List.filter_cons_of_pos hp] at h
        exact h
    | false =>
      rw [if_neg Bool.false_ne_true]
      refine lcGo_filter p f xs acc (fun y hy => ht y (List.mem_cons_of_mem _ hy)) (fun y hy => hx y (List.mem_cons_of_mem _ hy)) (by omega) ?_
      rw [List.filter_cons_of_neg (by rw [hp]; exact Bool.false_ne_true)] at h
      exact h
/-- each element is some one of S -/
theorem lcGo_some {i : Nat} {de : DE} {vs : List Nat} {ρ : DEnv} (S : D → Prop) {P : List D → Prop} : ∀ (xs acc : List D),
    (∀ x, x ∈ xs → ∀ Q : D → Bool → Prop, (∀ d, S d → Q d false) → de ((dwipe ρ vs).set i (some (Ent.val x))) Q) → acc.length + xs.length ≤ sizeLine →
    (∀ ds : List D, ds.length = xs.length → (∀ d, d ∈ ds → S d) → P (acc ++ ds)) → lcGo (dGName i) (fun _ P => P true) de vs ρ acc xs P
  | [], acc, _, _, h => by
    simp only [lcGo]
    simpa using h [] rfl (fun d hd => by simp at hd)
  | x :: xs, acc, hx, hl, h => by
    simp only [lcGo, dGName, if_true]
    rw [List.length_cons] at hl
    refine hx x List.mem_cons_self _ fun d hd => ⟨rfl, by omega, ?_⟩
    refine lcGo_some S xs (acc ++ [d]) (fun y hy => hx y (List.mem_cons_of_mem _ hy)) ?_ fun ds hl2 hds => ?_
    · rw [List.length_append, List.length_singleton]; omega
    · rw [List.append_assoc]
      exact h (d :: ds) (by rw [List.length_cons, List.length_cons, hl2]) fun e he => by
        rcases List.mem_cons.mp he with rfl | he
        · exact hd
        · exact hds e he
theorem lcGo_pair {i j : Nat} {de : DE} {vs : List Nat} {ρ : DEnv} (f : D → D → D) {P : List D → Prop} : ∀ (xs ys acc : List D),
    (∀ x y, (x, y) ∈ xs.zip ys → ∀ Q : D → Bool → Prop, Q (f x y) false → de (((dwipe ρ vs).set i (some (Ent.val x))).set j (some (Ent.val y))) Q) → acc.length + xs.length ≤ sizeLine → P (acc ++ List.zipWith f xs ys) →
    lcGo (dGPair i j) (fun _ P => P true) de vs ρ acc (zipD xs ys) P
  | [], ys, acc, _, _, h => by
    simp only [zipD, List.zip_nil_left, List.map_nil, lcGo]
    simpa using h
  | x :: xs, [], acc, _, _, h => by
    simp only [zipD, List.zip_nil_right, List.map_nil, lcGo]
    simpa using h
  | x :: xs, y :: ys, acc, hx, hl, h => by
    rw [List.length_cons] at hl
    have e : zipD (x :: xs) (y :: ys) = .tup [x, y] :: zipD xs ys := rfl
    rw [e]
    simp only [lcGo, dGPair, if_true]
    refine hx x y (by rw [List.zip_cons_cons]; exact List.mem_cons_self) _ ⟨rfl, by omega, ?_⟩
    refine lcGo_pair f xs ys (acc ++ [f x y]) (fun a b hab => hx a b (by rw [List.zip_cons_cons]; exact List.mem_cons_of_mem _ hab)) ?_ ?_
    · rw [List.length_append, List.length_singleton]; omega
    · rw [List.append_assoc]; exact h
end QD

/-! QD11: plain data; loops by what holds of the slots; texts. -/
namespace QD
open PySem L2 PySem.PyData

/-! ### plain data -/
mutual
def pl : D → Bool
  | .non => true
  | .bl _ => true
  | .int _ => true
  | .str x => strOk x && decide (x.length ≤ 1000000)
  | .lst ds => decide (ds.length ≤ 1000000) && pls ds
  | .tup ds => decide (ds.length ≤ 1000000) && pls ds
  | .ins _ _ => false
  | .lam _ => false
  | .dk _ => false
  | .dt _ => false
  | .raw _ => false
def pls : List D → Bool
  | [] => true
  | d :: ds => pl d && pls ds
end
mutual
def dep : D → Nat
  | .lst ds => deps ds + 1
  | .tup ds => deps ds + 1
  | _ => 0
def deps : List D → Nat
  | [] => 0
  | d :: ds => max (dep d) (deps ds)
end
theorem pls_mem : ∀ {ds : List D}, pls ds = true → ∀ d, d ∈ ds → pl d = true
  | [], _, d, h => by simp at h
  | c :: ds, e, d, h => by
    simp only [pls, Bool.and_eq_true] at e
    rcases List.mem_cons.mp h with rfl | h
    · exact e.1
    · exact pls_mem e.2 d h
theorem pls_of : ∀ {ds : List D}, (∀ d, d ∈ ds → pl d = true) → pls ds = true
  | [], _ => rfl
  | c :: ds, h => by
    simp only [pls, Bool.and_eq_true]
    exact ⟨h c List.mem_cons_self, pls_of fun d hd => h d (List.mem_cons_of_mem _ hd)⟩
theorem deps_mem : ∀ {ds : List D} {d : D}, d ∈ ds → dep d ≤ deps ds
  | c :: ds, d, h => by
    simp only [deps]
    rcases List.mem_cons.mp h with rfl | h
    · omega
    · have := deps_mem h
      omega
theorem deps_le : ∀ {ds : List D} {n : Nat}, (∀ d, d ∈ ds → dep d ≤ n) → deps ds ≤ n
  | [], n, _ => Nat.zero_le _
  | c :: ds, n, h => by
    have h1 := h c List.mem_cons_self
    have h2 := deps_le (n := n) fun d hd => h d (List.mem_cons_of_mem _ hd)
    simp only [deps]
    omega
mutual
theorem pl_py : ∀ (d : D), pl d = true → ∃ p, toPy d = some p ∧ p.canLay0 = true ∧ p.depth = dep d
  | .non, _ => ⟨_, rfl, rfl, by simp [PyData.depth, dep]⟩
  | .bl _, _ => ⟨_, rfl, rfl, by simp [PyData.depth, dep]⟩
  | .int _, _ => ⟨_, rfl, rfl, by simp [PyData.depth, dep]⟩
  | .str x, h => by
    simp only [pl, Bool.and_eq_true] at h
    exact ⟨_, rfl, by simp only [PyData.canLay0]; exact h.1, by simp [PyData.depth, dep]⟩
  | .lst ds, h => by
    simp only [pl, Bool.and_eq_true] at h
    obtain ⟨ps, e1, e2, e3⟩ := pls_py ds h.2
    exact ⟨.list ps, by simp [toPy, e1], by simp only [PyData.canLay0]; exact e2, by simp only [PyData.depth, dep, e3]; try omega⟩
  | .tup ds, h => by
    simp only [pl, Bool.and_eq_true] at h
    obtain ⟨ps, e1, e2, e3⟩ := pls_py ds h.2
    exact ⟨.tuple ps, by simp [toPy, e1], by simp only [PyData.canLay0]; exact e2, by simp only [PyData.depth, dep, e3]; try omega⟩
  | .ins _ _, h => by simp [pl] at h
  | .lam _, h => by simp [pl] at h
  | .dk _, h => by simp [pl] at h
  | .dt _, h => by simp [pl] at h
  | .raw _, h => by simp [pl] at h
theorem pls_py : ∀ (ds : List D), pls ds = true → ∃ ps, toPys ds = some ps ∧ PyData.canLayAll0 ps = true ∧ PyData.depthAll ps = deps ds
  | [], _ => ⟨[], rfl, by simp only [PyData.canLayAll0], by simp [PyData.depthAll, deps]⟩
  | d :: ds, h => by
    simp only [pls, Bool.and_eq_true] at h
    obtain ⟨p, e1, e2, e3⟩ := pl_py d h.1
    obtain ⟨ps, f1, f2, f3⟩ := pls_py ds h.2
    exact ⟨p :: ps, by simp only [toPys, e1, f1], by simp only [PyData.canLayAll0, e2, f2, Bool.and_self], by simp only [PyData.depthAll, deps, e3, f3]⟩
end
theorem dEq_self {d : D} {P : D → Prop} (h : pl d = true) (hd : dep d ≤ 64) (q : P (.bl true)) : dEq d d P := by
  obtain ⟨p, e1, e2, e3⟩ := pl_py d h
  have s : SeqAt.shaped p = true := by
    show (p.canLay0 && decide (p.depth ≤ 64)) = true
    rw [e2, e3, decide_eq_true hd]
    rfl
  unfold dEq
  rw [e1]
  refine ⟨⟨s, s⟩, ?_⟩
  rw [SeqAt.eqv_refl p e2]
  exact q
theorem dNe_self {d : D} {P : D → Prop} (h : pl d = true) (hd : dep d ≤ 64) (q : P (.bl false)) : dNe d d P := by
  obtain ⟨p, e1, e2, e3⟩ := pl_py d h
  have s : SeqAt.shaped p = true := by
    show (p.canLay0 && decide (p.depth ≤ 64)) = true
    rw [e2, e3, decide_eq_true hd]
    rfl
  unfold dNe
  rw [e1]
  refine ⟨⟨s, s⟩, ?_⟩
  rw [SeqAt.eqv_refl p e2]
  exact q
theorem dEq_int {i j : Int} {P : D → Prop} (q : P (.bl (decide (i = j)))) : dEq (.int i) (.int j) P := by
  refine ⟨⟨rfl, rfl⟩, ?_⟩
  have e : PyData.eqv (.int i) (.int j) = decide (i = j) := by
    simp only [PyData.eqv]
    exact Bool.eq_iff_iff.mpr (by simp)
  rw [e]
  exact q
theorem dNe_bl {i j : Bool} {P : D → Prop} (q : P (.bl (!decide (i = j)))) : dNe (.bl i) (.bl j) P := by
  refine ⟨⟨rfl, rfl⟩, ?_⟩
  have e : PyData.eqv (.bool i) (.bool j) = decide (i = j) := by
    simp only [PyData.eqv]
    exact Bool.eq_iff_iff.mpr (by simp)
  rw [e]
  exact q
theorem dEq_bl {i j : Bool} {P : D → Prop} (q : P (.bl (decide (i = j)))) : dEq (.bl i) (.bl j) P := by
  refine ⟨⟨rfl, rfl⟩, ?_⟩
  have e : PyData.eqv (.bool i) (.bool j) = decide (i = j) := by
    simp only [PyData.eqv]
    exact Bool.eq_iff_iff.mpr (by simp)
  rw [e]
  exact q
theorem dEq_str {x y : Str} {P : D → Prop} (hx : strOk x = true) (hy : strOk y = true) (q : P (.bl (decide (x = y)))) : dEq (.str x) (.str y) P := by
  refine ⟨⟨?_, ?_⟩, ?_⟩
  · show (PyData.canLay0 (.str x) && decide (PyData.depth (.str x) ≤ 64)) = true
    simp [PyData.canLay0, PyData.depth, hx]
  · show (PyData.canLay0 (.str y) && decide (PyData.depth (.str y) ≤ 64)) = true
    simp [PyData.canLay0, PyData.depth, hy]
  · have e : PyData.eqv (.str x) (.str y) = decide (x = y) := by
      simp only [PyData.eqv]
      exact Bool.eq_iff_iff.mpr (by simp)
    rw [e]
    exact q

theorem shp (p : PyData) (h : p.canLay0 = true) (hd : p.depth = 0) : SeqAt.shaped p = true := by
  show (p.canLay0 && decide (p.depth ≤ 64)) = true
  rw [h, hd]
  rfl
theorem bool_int (i j : Int) : (i == j) = decide (i = j) := Bool.eq_iff_iff.mpr (by simp)
theorem bool_bl (i j : Bool) : (i == j) = decide (i = j) := Bool.eq_iff_iff.mpr (by simp)
theorem eq_bl {i j : Bool} {P : D → Prop} : dEq (.bl i) (.bl j) P = P (.bl (decide (i = j))) := by
  show ((_ ∧ _) ∧ P (.bl (PyData.eqv (.bool i) (.bool j)))) = _
  rw [show PyData.eqv (.bool i) (.bool j) = decide (i = j) by simp only [PyData.eqv]; exact bool_bl i j]
  exact propext ⟨fun h => h.2, fun h => ⟨⟨rfl, rfl⟩, h⟩⟩
theorem ne_bl {i j : Bool} {P : D → Prop} : dNe (.bl i) (.bl j) P = P (.bl (!decide (i = j))) := by
  show ((_ ∧ _) ∧ P (.bl (!PyData.eqv (.bool i) (.bool j)))) = _
  rw [show PyData.eqv (.bool i) (.bool j) = decide (i = j) by simp only [PyData.eqv]; exact bool_bl i j]
  exact propext ⟨fun h => h.2, fun h => ⟨⟨rfl, rfl⟩, h⟩⟩
theorem eq_int {i j : Int} {P : D → Prop} : dEq (.int i) (.int j) P = P (.bl (decide (i = j))) := by
  show ((_ ∧ _) ∧ P (.bl (PyData.eqv (.int i) (.int j)))) = _
  rw [show PyData.eqv (.int i) (.int j) = decide (i = j) by simp only [PyData.eqv]; exact bool_int i j]
  exact propext ⟨fun h => h.2, fun h => ⟨⟨rfl, rfl⟩, h⟩⟩
theorem ne_int {i j : Int} {P : D → Prop} : dNe (.int i) (.int j) P = P (.bl (!decide (i = j))) := by
  show ((_ ∧ _) ∧ P (.bl (!PyData.eqv (.int i) (.int j)))) = _
  rw [show PyData.eqv (.int i) (.int j) = decide (i = j) by simp only [PyData.eqv]; exact bool_int i j]
  exact propext ⟨fun h => h.2, fun h => ⟨⟨rfl, rfl⟩, h⟩⟩

theorem lcGo_congr {dg : DG} {dt : DT} {de : DE} {vs : List Nat} {ρ ρ' : DEnv} {acc acc' xs xs' : List D} {P : List D → Prop} (h : ρ = ρ') (h1 : acc = acc') (h2 : xs = xs') : lcGo dg dt de vs ρ acc xs P = lcGo dg dt de vs ρ' acc' xs' P := by rw [h, h1, h2]
theorem dLoop_congr {dg : DG} {b : DS} {Dd : DEnds} {ρ ρ' : DEnv} {xs xs' : List D} (h : ρ = ρ') (h2 : xs = xs') : dLoop dg b Dd xs ρ = dLoop dg b Dd xs' ρ' := by rw [h, h2]
/-! ### loops -/
theorem dLoop_inv {dg : DG} {body : DS} {Dd : DEnds} (I : Nat → DEnv → Prop) : ∀ (xs : List D) (k : Nat) (ρ : DEnv), I k ρ →
    (∀ i x ρ, xs[i]? = some x → I (k + i) ρ → ∀ N : DEnv → Prop, (∀ ρ', I (k + i + 1) ρ' → N ρ') → dg x ρ fun ρ2 => body { nx := N, rt := Dd.rt, bk := Dd.nx, ct := N } ρ2) →
    (∀ ρ, I (k + xs.length) ρ → Dd.nx ρ) → dLoop dg body Dd xs ρ
  | [], k, ρ, h0, _, hd => hd ρ h0
  | x :: xs, k, ρ, h0, hs, hd => by
    simp only [dLoop]
    refine hs 0 x ρ rfl h0 _ fun ρ' h' => ?_
    refine dLoop_inv I xs (k + 1) ρ' h' (fun i y ρ2 hy h2 N hN => ?_) (fun ρ2 h2 => hd ρ2 (by rw [List.length_cons]; have e : k + (xs.length + 1) = k + 1 + xs.length := by omega
                                                                                              rw [e]; exact h2))
    have e : k + (i + 1) = k + 1 + i := by omega
    exact hs (i + 1) y ρ2 (by simpa using hy) (by rw [e]; exact h2) N (by rw [e]; exact hN)
theorem dFor_inv {dg : DG} {body : DS} {Dd : DEnds} (I : Nat → DEnv → Prop) {xs : List D} {ρ : DEnv} (h0 : I 0 ρ)
    (hs : ∀ i x ρ, xs[i]? = some x → I i ρ → ∀ N : DEnv → Prop, (∀ ρ', I (i + 1) ρ' → N ρ') → dg x ρ fun ρ2 => body { nx := N, rt := Dd.rt, bk := Dd.nx, ct := N } ρ2) (hd : ∀ ρ, I xs.length ρ → Dd.nx ρ) : dLoop dg body Dd xs ρ :=
  dLoop_inv I xs 0 ρ h0 (fun i x ρ hx h N hN => hs i x ρ hx (by simpa using h) N (by simpa using hN)) (fun ρ h => hd ρ (by simpa using h))

/-! ### texts -/
/-- the signs of a text are among cs -/
def among (z cs : Str) : Prop := ∀ k, k ∈ z.cps.toList → k ∈ cs.cps.toList
theorem strOk_among {z cs : Str} (h : among z cs) (hc : strOk cs = true) : strOk z = true := by
  unfold strOk at hc ⊢
  rw [← Array.all_toList] at hc ⊢
  exact List.all_eq_true.mpr fun k hk => List.all_eq_true.mp hc k (h k hk)
theorem strOk_app {a b : Str} (ha : strOk a = true) (hb : strOk b = true) : strOk (a ++ b) = true := by
  unfold strOk at ha hb ⊢
  rw [← Array.all_toList] at ha hb ⊢
  rw [Str.cps_append, Array.toList_append, List.all_append, ha, hb]
  rfl
theorem len_list (z : Str) : z.cps.toList.length = z.length := by rw [Array.length_toList]; rfl
/-- texts of one sign, joined by nothing -/
theorem joinL_signs : ∀ ks : List Nat, TL.joinL [] (ks.map fun k => [k]) = ks
  | [] => rfl
  | [k] => rfl
  | k :: k2 :: r => by
    have h := joinL_signs (k2 :: r)
    simp only [List.map_cons] at h ⊢
    simp only [TL.joinL]
    simp only [List.nil_append, List.singleton_append]
    rw [h]
theorem join_signs (ks : List Nat) : Txt.join (Str.ofString "") (ks.map fun k => (⟨#[k]⟩ : Str)) = ⟨ks.toArray⟩ := by
  have e0 : Str.ofString "" = SX.S [] := by decide +kernel
  have e := SX.join_S [] (ks.map fun k => [k])
  rw [joinL_signs, List.map_map] at e
  rw [e0]
  exact e
end QD

/-! QD12: a reading by data, run from its front (Go). -/
namespace QD
open PySem L2 PySem.PyData
/-- the front of a reading -/
def Go (p : Prop) : Prop := p
theorem go_in {p : Prop} (h : p) : Go p := h
theorem go_out {p : Prop} (h : Go p) : p := h
section
variable {a b e f : DE} {t u : DT} {A B : DS} {Dd : DEnds} {ρ : DEnv} {P : D → Bool → Prop} {PT : Bool → Prop} {PA : List D → Bool → Prop} {Pd : D → Prop} {PI : List D → Prop} {PX : D → DEnv → Prop} {g : DG} {r r' : DR} {du : DU} {dc : DC} {da dk : DA} {di : DI} {dn dm : DN} {dx dy : DX} {i j : Nat} {x y z : D} {xs ys : List D} {xd : D} {k : Bool} {n m : Int} {p q : Prop} {c : Prop} [Decidable c]
theorem go_and : Go (p ∧ q) = (p ∧ Go q) := (rfl)
theorem go_var : Go (dVar i ρ P) = Go (getE ρ[i]? P) := (rfl)
theorem go_val : Go (getE (some (some (Ent.val x))) P) = Go (P x false) := (rfl)
theorem go_own : Go (getE (some (some (Ent.own xd))) P) = Go (P xd true) := (rfl)
theorem go_c : Go (dC x ρ P) = Go (P x false) := (rfl)
theorem go_op : Go (dOp r a b ρ P) = Go (a ρ fun x c1 => b ρ fun y c2 => r x y fun z => P z (dirt z (c1 || c2))) := (rfl)
theorem go_un : Go (dUn du a ρ P) = Go (a ρ fun x c1 => du x fun z => P z (dirt z c1)) := (rfl)
theorem go_nil : Go (dNil ρ PA) = Go (PA [] false) := (rfl)
theorem go_cons : Go (dCons a da ρ PA) = Go (a ρ fun x c1 => da ρ fun xs c2 => PA (x :: xs) (c1 || c2)) := (rfl)
theorem go_cb : Go (dCB dc da ρ P) = Go (da ρ fun xs c1 => dc xs fun z => P z (dirt z c1)) := (rfl)
theorem go_tup : Go (dTup da ρ P) = Go (da ρ fun xs c1 => xs.length ≤ sizeLine ∧ P (.tup xs) c1) := (rfl)
theorem go_lst : Go (dLst da ρ P) = Go (da ρ fun xs c1 => xs.length ≤ sizeLine ∧ P (.lst xs) c1) := (rfl)
theorem go_test : Go (dTest a ρ PT) = Go (a ρ fun x _ => asBl x PT) := (rfl)
theorem go_asBl {PB : Bool → Prop} : Go (asBl (.bl k) PB) = Go (PB k) := (rfl)
theorem go_asInt {PB : Int → Prop} : Go (asInt (.int n) PB) = Go (PB n) := (rfl)
theorem go_asStr {s : Str} {PB : Str → Prop} : Go (asStr (.str s) PB) = Go (PB s) := (rfl)
theorem go_some {α : Type} {w : α} {PB : α → Prop} : Go (optP (some w) PB) = Go (PB w) := (rfl)
theorem go_dand : Go (dAnd t u ρ PT) = Go (t ρ fun k => if k = true then u ρ PT else PT false) := (rfl)
theorem go_dor : Go (dOr t u ρ PT) = Go (t ρ fun k => if k = true then PT true else u ρ PT) := (rfl)
theorem go_dnot : Go (dNot t ρ PT) = Go (t ρ fun k => PT (!k)) := (rfl)
theorem go_ifE : Go (dIfE t a b ρ P) = Go (t ρ fun k => if k = true then a ρ P else b ρ P) := (rfl)
theorem go_andV : Go (dAndV a b ρ P) = Go (a ρ fun x _ => asBl x fun k => if k = true then b ρ P else P (.bl false) false) := (rfl)
theorem go_orV : Go (dOrV a b ρ P) = Go (a ρ fun x _ => asBl x fun k => if k = true then P (.bl true) false else b ρ P) := (rfl)
theorem go_notV : Go (dNotV a ρ P) = Go (a ρ fun x _ => asBl x fun k => P (.bl (!k)) false) := (rfl)
theorem go_iT : Go (if True then p else q) = Go p := by rw [if_pos True.intro]
theorem go_iF : Go (if False then p else q) = Go q := by rw [if_neg id]
theorem go_next : Go (dNext Dd ρ) = Go (Dd.nx ρ) := (rfl)
theorem go_seq : Go (dSeq A B Dd ρ) = Go (A { Dd with nx := B Dd } ρ) := (rfl)
theorem go_if : Go (dIf t A B Dd ρ) = Go (t ρ fun k => if k = true then A Dd ρ else B Dd ρ) := (rfl)
theorem go_ret : Go (dRet a Dd ρ) = Go (a ρ fun d _ => Dd.rt d) := (rfl)
theorem go_retN : Go (dRetN Dd ρ) = Go (Dd.rt .non) := (rfl)
theorem go_brk : Go (dBreak Dd ρ) = Go (Dd.bk ρ) := (rfl)
theorem go_cont : Go (dCont Dd ρ) = Go (Dd.ct ρ) := (rfl)
theorem go_drop : Go (dDrop a Dd ρ) = Go (a ρ fun _ _ => Dd.nx ρ) := (rfl)
theorem go_asg : Go (dAsg a g Dd ρ) = Go (a ρ fun d c1 => c1 = false ∧ g d ρ Dd.nx) := (rfl)
theorem go_gname {Q : DEnv → Prop} : Go (dGName i x ρ Q) = Go (Q (ρ.set i (some (Ent.val x)))) := (rfl)
theorem go_gpair {Q : DEnv → Prop} : Go (dGPair i j (.tup [x, y]) ρ Q) = Go (Q ((ρ.set i (some (Ent.val x))).set j (some (Ent.val y)))) := (rfl)
theorem go_II {F : Int → Int → D} : Go (dII F (.int n) (.int m) Pd) = Go (Pd (F n m)) := (rfl)
theorem go_IC {C : Int → Int → Prop} {F : Int → Int → D} : Go (dIC C F (.int n) (.int m) Pd) = Go (C n m ∧ Pd (F n m)) := (rfl)
theorem go_addI : Go (dAdd (.int n) (.int m) Pd) = Go (Pd (.int (n + m))) := (rfl)
theorem go_addS {s s' : Str} : Go (dAdd (.str s) (.str s') Pd) = Go (s.length + s'.length ≤ sizeLine ∧ Pd (.str (s ++ s'))) := (rfl)
theorem go_addL : Go (dAdd (.lst xs) (.lst ys) Pd) = Go (xs.length + ys.length ≤ sizeLine ∧ Pd (.lst (xs ++ ys))) := (rfl)
theorem go_mulI : Go (dMul (.int n) (.int m) Pd) = Go (CMul n m ∧ Pd (.int (n * m))) := (rfl)
theorem go_mulS {s : Str} : Go (dMul (.str s) (.int m) Pd) = Go (MulOk s m ∧ Pd (.str (Txt.mul s m))) := (rfl)
theorem go_mulL : Go (dMul (.lst xs) (.int m) Pd) = Go ((0 ≤ m ∧ m < 2 ^ 63 ∧ xs.length * m.toNat ≤ sizeLine) ∧ Pd (.lst (List.replicate m.toNat xs).flatten)) := (rfl)
theorem go_is : Go (dIs x .non Pd) = Go (optP x.isNon fun b => Pd (.bl b)) := by cases x <;> rfl
theorem go_isnot : Go (dIsNot x .non Pd) = Go (optP x.isNon fun b => Pd (.bl (!b))) := by cases x <;> rfl
theorem go_inS {s : Str} : Go (dInG false x (.str s) Pd) = Go (optP x.sign fun ch => Pd (.bl (decide (ch ∈ s.cps.toList)))) := by cases x <;> rfl
theorem go_inL : Go (dInG k x (.lst xs) Pd) = Go (optP (inG k x xs) fun b => Pd (.bl b)) := by cases x <;> rfl
theorem go_inT : Go (dInG k x (.tup xs) Pd) = Go (optP (inG k x xs) fun b => Pd (.bl b)) := by cases x <;> rfl
theorem go_ninS {s : Str} : Go (dInG true x (.str s) Pd) = Go (optP x.sign fun ch => Pd (.bl (!decide (ch ∈ s.cps.toList)))) := by cases x <;> rfl
theorem go_eqbl {k l : Bool} : Go (dEq (.bl k) (.bl l) Pd) = Go (Pd (.bl (decide (k = l)))) := by unfold Go; rw [eq_bl]
theorem go_nebl {k l : Bool} : Go (dNe (.bl k) (.bl l) Pd) = Go (Pd (.bl (!decide (k = l)))) := by unfold Go; rw [ne_bl]
theorem go_eqint : Go (dEq (.int n) (.int m) Pd) = Go (Pd (.bl (decide (n = m)))) := by unfold Go; rw [eq_int]
theorem go_neint : Go (dNe (.int n) (.int m) Pd) = Go (Pd (.bl (!decide (n = m)))) := by unfold Go; rw [ne_int]
theorem go_isi {s : String} : Go (dIsi [x, .raw (.ty s)] Pd) = Go (optP (isD x s) fun b => Pd (.bl b)) := by cases x <;> rfl
theorem go_isi2 {s s' : String} : Go (dIsi2 s s' x Pd) = Go (optP (isD2 x s s') fun b => Pd (.bl b)) := (rfl)
theorem go_len : Go (dLen [x] Pd) = Go (dLen1 x Pd) := (rfl)
theorem go_lenS {s : Str} : Go (dLen1 (.str s) Pd) = Go (s.length ≤ sizeLine ∧ Pd (.int s.length)) := (rfl)
theorem go_lenL : Go (dLen1 (.lst xs) Pd) = Go (Pd (.int xs.length)) := (rfl)
theorem go_lenT : Go (dLen1 (.tup xs) Pd) = Go (Pd (.int xs.length)) := (rfl)
theorem go_int1 : Go (dInt1 [.int n] Pd) = Go (Pd (.int n)) := (rfl)
theorem go_intb : Go (dInt1 [.bl k] Pd) = Go (Pd (.int (if k then 1 else 0))) := (rfl)
theorem go_abs : Go (dAbs [.int n] Pd) = Go (Pd (.int (if n < 0 then -n else n))) := (rfl)
theorem go_max : Go (dMax2 [.int n, .int m] Pd) = Go (Pd (.int (if m > n then m else n))) := (rfl)
theorem go_min : Go (dMin2 [.int n, .int m] Pd) = Go (Pd (.int (if m < n then m else n))) := (rfl)
theorem go_lol : Go (dListOf [.lst xs] Pd) = Go (Pd (.lst xs)) := (rfl)
theorem go_lot : Go (dListOf [.tup xs] Pd) = Go (Pd (.lst xs)) := (rfl)
theorem go_tol : Go (dTupOf [.lst xs] Pd) = Go (Pd (.tup xs)) := (rfl)
theorem go_tot : Go (dTupOf [.tup xs] Pd) = Go (Pd (.tup xs)) := (rfl)
theorem go_all : Go (dAll [.lst xs] Pd) = Go (optP (asBls xs) fun bs => Pd (.bl (bs.all id))) := (rfl)
theorem go_any : Go (dAny [.lst xs] Pd) = Go (optP (asBls xs) fun bs => Pd (.bl (bs.any id))) := (rfl)
theorem go_ixL : Go (dIx (.lst xs) (.int n) Pd) = Go (optP (atI xs n) Pd) := (rfl)
theorem go_ixT : Go (dIx (.tup xs) (.int n) Pd) = Go (optP (atI xs n) Pd) := (rfl)
theorem go_ixS {s : Str} : Go (dIx (.str s) (.int n) Pd) = Go (s.length ≤ sizeLine ∧ optP (atI s.cps.toList n) fun k => Pd (.str ⟨#[k]⟩)) := (rfl)
theorem go_noPart {PO : Option Int → Prop} : Go (dNoPart ρ PO) = Go (PO none) := (rfl)
theorem go_part {PO : Option Int → Prop} : Go (dPart a ρ PO) = Go (a ρ fun d _ => asInt d fun i => PO (some i)) := (rfl)
theorem go_sl {lo hi : DO} : Go (dSl a lo hi ρ P) = Go (a ρ fun x b => lo ρ fun l => hi ρ fun u => slD x b l u P) := (rfl)
theorem go_slL {l u : Option Int} : Go (slD (.lst xs) k l u P) = Go (P (.lst (cutD xs l u)) k) := (rfl)
theorem go_slS {s : Str} {l u : Option Int} : Go (slD (.str s) k l u P) = Go (s.length ≤ sizeLine ∧ P (.str (cutS s l u)) false) := (rfl)
theorem go_chain : Go (dChain r r' a b e ρ P) = Go (a ρ fun x b1 => b ρ fun y b' => r x y fun z => asBl z fun k => if k = true then e ρ fun w b'' => r' y w fun z => P z (dirt z (b' || b'')) else P (.bl false) false) := (rfl)
theorem go_split : Go (dSplit a b ρ P) = Go (a ρ fun x _ => asStr x fun s => b ρ fun y _ => asStr y fun s' => ((s'.length == 0) = false ∧ s.length + 2 ≤ sizeLine) ∧ P (.lst ((Txt.split s s').map D.str)) false) := (rfl)
theorem go_join : Go (dJoin a b ρ P) = Go (a ρ fun x _ => asStr x fun s => b ρ fun y _ => optP (strsOf y) fun ys => (ys.map (·.length)).sum + ys.length * s.length ≤ 16777216 ∧ P (.str (Txt.join s ys)) false) := (rfl)
theorem go_walk : Go (dWalk a ρ PI) = Go (a ρ fun d b => b = false ∧ optP d.walked PI) := (rfl)
theorem go_rng1 : Go (dRange1 a ρ PI) = Go (a ρ fun d _ => asInt d fun n => n < 4611686018427387904 ∧ -4611686018427387904 ≤ n ∧ PI (rangeD 0 n.toNat)) := (rfl)
theorem go_rng2 : Go (dRange2 a b ρ PI) = Go (a ρ fun d _ => b ρ fun d' _ => asInt d fun a => asInt d' fun n => (a < 4611686018427387904 ∧ -4611686018427387904 ≤ a ∧ n < 4611686018427387904 ∧ -4611686018427387904 ≤ n) ∧ PI (rangeD a (n - a).toNat)) := (rfl)
theorem go_zip : Go (dZip a b ρ PI) = Go (a ρ fun x c1 => b ρ fun y c2 => (c1 = false ∧ c2 = false) ∧ zip2 x y PI) := (rfl)
theorem go_zipL : Go (zip2 (.lst xs) (.lst ys) PI) = Go (PI (zipD xs ys)) := (rfl)
theorem go_zipT : Go (zip2 (.tup xs) (.tup ys) PI) = Go (PI (zipD xs ys)) := (rfl)
theorem go_enum : Go (dEnum a ρ PI) = Go (a ρ fun x c1 => c1 = false ∧ enum1 x PI) := (rfl)
theorem go_enumL : Go (enum1 (.lst xs) PI) = Go (PI (enumD xs)) := (rfl)
theorem go_lc {vs : List Nat} : Go (dLc di g t e vs ρ P) = Go (di ρ fun xs => lcGo g t e vs ρ [] xs fun acc => P (.lst acc) false) := (rfl)
theorem go_for : Go (dFor di g A Dd ρ) = Go (di ρ fun xs => dLoop g A Dd xs ρ) := (rfl)
theorem go_call {bag : Option (Addr × Addr)} {nn : Nat} {dT : DF} {dd : List D} : Go (dCall bag nn dT dd da ρ P) = Go (da ρ fun xs b => (xs ++ dd).length = nn ∧ dT bag (xs ++ dd) (fun z => P z (dirt z b)) fun _ _ => False) := (rfl)
theorem go_callN {bag : Option (Addr × Addr)} {nn kk mm : Nat} {dT : DF} {gD : List D → List D → List D} : Go (dCallN bag nn kk mm dT gD da dk ρ P) = Go (da ρ fun xs b => dk ρ fun ys b' => (xs.length = kk ∧ ys.length = mm) ∧ (gD xs ys).length = nn ∧ dT bag (gD xs ys) (fun z => P z (dirt z (b || b'))) fun _ _ => False) := (rfl)
theorem go_asgO : Go (dAsgO dn i Dd ρ) = Go (dn ρ fun ds => Dd.nx (ρ.set i (some (Ent.own (.lst ds))))) := (rfl)
theorem go_nlst : Go (dnLst da ρ PI) = Go (da ρ fun xs b => b = false ∧ xs.length ≤ sizeLine ∧ PI xs) := (rfl)
theorem go_nlo : Go (dnListOf a ρ PI) = Go (a ρ fun d b => b = false ∧ optP d.items PI) := (rfl)
theorem go_append : Go (dAppend i dx Dd ρ) = Go (dEntOwn ρ i fun _ => dx ρ fun d ρ' => dEntOwn ρ' i fun ds => ds.length < sizeLine ∧ Dd.nx (ρ'.set i (some (Ent.own (.lst (ds ++ [d])))))) := (rfl)
theorem go_entOwn : Go (dEntOwn ρ i PI) = Go (ownE ρ[i]? PI) := (rfl)
theorem go_ownE : Go (ownE (some (some (Ent.own (.lst xs)))) PI) = Go (PI xs) := (rfl)
theorem go_dxE : Go (dxE a ρ PX) = Go (a ρ fun d b => b = false ∧ PX d ρ) := (rfl)
theorem go_dxIf : Go (dxIf t dx dy ρ PX) = Go (t ρ fun k => if k = true then dx ρ PX else dy ρ PX) := (rfl)
theorem go_asgX : Go (dAsgX dx i Dd ρ) = Go (dx ρ fun d ρ' => Dd.nx (ρ'.set i (some (Ent.val d)))) := (rfl)
theorem go_popAt : Go (dxPopAt i a ρ PX) = Go (dEntOwn ρ i fun ds => a ρ fun d _ => asInt d fun k => (-9223372036854775808 ≤ k ∧ k < 9223372036854775808) ∧ optP (seqIndex? k ds.length) fun j => optP ds[j]? fun y => PX y (ρ.set i (some (Ent.own (.lst (ds.eraseIdx j)))))) := (rfl)
theorem go_pop : Go (dxPop i ρ PX) = Go (dEntOwn ρ i fun ds => optP ds[ds.length - 1]? fun y => PX y (ρ.set i (some (Ent.own (.lst ds.dropLast))))) := (rfl)
theorem go_setIx : Go (dSetIx i a b Dd ρ) = Go (a ρ fun d c1 => dEntOwn ρ i fun ds => b ρ fun k _ => c1 = false ∧ asInt k fun k => optP (ixN ds.length k) fun j => Dd.nx (ρ.set i (some (Ent.own (.lst (ds.set j d)))))) := (rfl)
theorem go_freeze : Go (dFreeze i A Dd ρ) = Go (A Dd (frz1 ρ i ρ[i]?)) := (rfl)
theorem frz_own : frz1 ρ i (some (some (Ent.own xd))) = ρ.set i (some (Ent.val xd)) := (rfl)
theorem frz_val : frz1 ρ i (some (some (Ent.val x))) = ρ := (rfl)
theorem go_parVV : Go (dParVV i j a b Dd ρ) = Go (a ρ fun x c1 => b ρ fun y c2 => (c1 = false ∧ c2 = false) ∧ Dd.nx ((ρ.set i (some (Ent.val x))).set j (some (Ent.val y)))) := (rfl)
theorem go_parOV : Go (dParOV i j dn b Dd ρ) = Go (dn ρ fun xs => b ρ fun y c2 => c2 = false ∧ Dd.nx ((ρ.set i (some (Ent.own (.lst xs)))).set j (some (Ent.val y)))) := (rfl)
theorem go_parVO : Go (dParVO i j a dn Dd ρ) = Go (a ρ fun x c1 => dn ρ fun ys => c1 = false ∧ Dd.nx ((ρ.set i (some (Ent.val x))).set j (some (Ent.own (.lst ys))))) := (rfl)
theorem go_parOO : Go (dParOO i j dn dm Dd ρ) = Go (dn ρ fun xs => dm ρ fun ys => Dd.nx ((ρ.set i (some (Ent.own (.lst xs)))).set j (some (Ent.own (.lst ys))))) := (rfl)
theorem go_neg : Go (dNeg (.int n) Pd) = Go (Pd (.int (-n))) := (rfl)
end
end QD

/-! QD13: objects by data: fields, making, __init__. -/
namespace QD
open PySem L2

theorem RF.lookup {K : PySem.W.Frag} {H : Hp} {f : Str} : ∀ {fs : List (Str × D)} {gs : List (Str × V)} {d : D}, RF K H fs gs → fs.lookup f = some d → ∃ v, gs.lookup f = some v ∧ R K H d v
  | [], _, _, _, e => by cases e
  | (g, x) :: r, _, d, h, e => by
    obtain ⟨v, r', rfl, h1, h2⟩ := h
    rw [List.lookup_cons] at e ⊢
    by_cases k : (f == g) = true
    · rw [k] at e ⊢
      cases e
      exact ⟨v, rfl, h1⟩
    · have k' : (f == g) = false := by
        cases q : (f == g) with
        | true => exact absurd q k
        | false => rfl
      rw [k'] at e ⊢
      exact RF.lookup h2 e
def putD (f : Str) (d : D) : List (Str × D) → List (Str × D)
  | [] => [(f, d)]
  | (g, x) :: r => if g = f then (g, d) :: r else (g, x) :: putD f d r
theorem RF.put {K : PySem.W.Frag} {H : Hp} {f : Str} {d : D} {v : V} (q : R K H d v) : ∀ {fs : List (Str × D)} {gs : List (Str × V)}, RF K H fs gs → RF K H (putD f d fs) (putF f v gs)
  | [], _, h => by
    have : _ = [] := h
    subst this
    rw [putF.eq_1]
    exact ⟨v, [], rfl, q, rfl⟩
  | (g, x) :: r, _, h => by
    obtain ⟨u, r', rfl, h1, h2⟩ := h
    rw [putF.eq_2]
    unfold putD
    by_cases k : g = f
    · rw [if_pos k, if_pos k]
      exact ⟨v, r', rfl, q, h2⟩
    · rw [if_neg k, if_neg k]
      exact ⟨u, _, rfl, h1, RF.put q h2⟩
theorem RF.length {K : PySem.W.Frag} {H : Hp} : ∀ {fs : List (Str × D)} {gs : List (Str × V)}, RF K H fs gs → gs.length = fs.length
  | [], _, h => by
    have : _ = [] := h
    subst this
    rfl
  | f :: fs, _, h => by
    obtain ⟨u, r', rfl, h1, h2⟩ := h
    rw [List.length_cons, List.length_cons, RF.length h2]

/-- x.f -/
def asIns (C : Addr) : D → (List (Str × D) → Prop) → Prop
  | .ins C' fs, P => C' = C ∧ P fs
  | _, _ => False
def dFld (C : Addr) (f : Str) (da : DE) : DE := fun ρ P => da ρ fun x b => asIns C x fun fs => optP (fs.lookup f) fun z => P z (dirt z b)
section
variable {K : PySem.W.Frag} {c : Fm} {H0 : Hp} {ta tb te : TE} {da db de : DE} {C : Addr} {f : Str}
theorem rb_ins {O : List Addr} {H : Hp} {b : Bool} {x : D} {v : V} {P : List (Str × D) → Prop} (r : RB K c O H b x v) (h : asIns C x P) : ∃ fs, x = .ins C fs ∧ P fs ∧ ∃ a dx gs, v = .ref a ∧ H a = some (.ins C dx gs) ∧ RF K (but H (if b then c.M else c.M ++ O)) fs gs := by
  unfold asIns at h
  split at h
  · rename_i C' fs
    obtain ⟨rfl, h⟩ := h
    obtain ⟨a, dx, gs, e, h1, h2⟩ := r
    exact ⟨fs, rfl, h, a, dx, gs, e, (but_some h1).2, h2⟩
  · exact h.elim
theorem sim_fld (cl : Cls K C) (na : NoAttr K C f) (ha : SimE K c H0 ta da) : SimE K c H0 (tFld K ta f) (dFld C f da) := by
  intro ρ P h O σ H Q rp q
  refine ha ρ _ h O σ H _ rp fun v x b H1 h1 rp1 e1 rx => ?_
  obtain ⟨fs, rfl, h2, a, dx, gs, rfl, g1, g2⟩ := rb_ins rx h1
  obtain ⟨z, ez, h2⟩ := optP_some h2
  obtain ⟨w, e2, rw_⟩ := RF.lookup g2 ez
  exact ⟨a, C, dx, gs, w, rfl, g1, cl, na, e2, q w z _ H1 h2 rp1 e1 (RB.dirt (b := b) rw_)⟩

/-! ### an object that is being made -/
def objE (C : Addr) : Option (Option Ent) → (List (Str × D) → Prop) → Prop
  | some (some (.own (.ins C' fs))), Q => C' = C ∧ Q fs
  | _, _ => False
def dEntObj (ρ : DEnv) (i : Nat) (C : Addr) (Q : List (Str × D) → Prop) : Prop := objE C ρ[i]? Q
theorem entObj {ρ : DEnv} {i : Nat} {Q : List (Str × D) → Prop} (h : dEntObj ρ i C Q) : ∃ fs, ρ[i]? = some (some (Ent.own (.ins C fs))) ∧ Q fs := by
  unfold dEntObj objE at h
  split at h
  · rename_i C' fs e
    obtain ⟨rfl, h⟩ := h
    exact ⟨fs, e, h⟩
  · exact h.elim
/-- self.f = e -/
def dSetFld (i : Nat) (C : Addr) (f : Str) (de : DE) : DS := fun Dd ρ => de ρ fun d b => b = false ∧ dEntObj ρ i C fun fs => fs.length < 1000 ∧ Dd.nx (ρ.set i (some (Ent.own (.ins C (putD f d fs)))))
theorem sim_setFld {i : Nat} (cl : Cls K C) (na : NoAttr K C f) (he : SimE K c H0 te de) : SimS K c H0 (sFld K (tVar i) te f) (dSetFld i C f de) := by
  intro Dd ρ hd O σ H Dn F rp g R
  refine he ρ _ hd O σ H _ rp fun v d b H1 h1 rp1 e1 rv => ?_
  obtain ⟨hb, h1⟩ := h1
  subst hb
  obtain ⟨fs, e0, hsz, h1⟩ := entObj h1
  obtain ⟨p, _, hv, hp, hx, dx, gs, rfl, ra⟩ := rp1.own i _ e0
  obtain ⟨r3, g3⟩ := rp1.chg e0 hv hp (es := .ins C (putD f d fs)) (ys := .ins C dx (putF f v gs)) ⟨dx, _, rfl, RF.put rv ra⟩ (fun _ _ _ => ⟨_, _, rfl⟩)
  exact ⟨.ref p, hv, p, C, dx, gs, rfl, hx, cl, na, by rw [RF.length ra]; exact hsz, R.nx _ O σ _ h1 r3 ((g.ex e1).trans g3)⟩
/-- self.f, while self is being made -/
def dOwnFld (i : Nat) (C : Addr) (f : Str) : DE := fun ρ P => dEntObj ρ i C fun fs => optP (fs.lookup f) fun z => P z false
theorem sim_ownFld {i : Nat} (cl : Cls K C) (na : NoAttr K C f) : SimE K c H0 (tFld K (tVar i) f) (dOwnFld i C f) := by
  intro ρ P h O σ H Q rp q
  obtain ⟨fs, e0, h⟩ := entObj h
  obtain ⟨p, _, hv, hp, hx, dx, gs, rfl, ra⟩ := rp.own i _ e0
  obtain ⟨z, ez, h⟩ := optP_some h
  obtain ⟨w, e2, rw_⟩ := RF.lookup ra ez
  exact ⟨.ref p, hv, p, C, dx, gs, w, rfl, hx, cl, na, e2, q w z false H h rp (Ex.refl H) rw_⟩

/-! ### the promise of an __init__ -/
abbrev DI0 := Option (Addr × Addr) → List D → (List (Str × D) → Prop) → DEr → Prop
def spI (K : PySem.W.Frag) (C : Addr) (n : Nat) (dT : DI0) : Sp := fun vs H Q E => ∃ (x dx : Addr) (ws : List V) (H1 : Hp) (c : Fm) (ds : List D) (P : List (Str × D) → Prop) (Er : DEr),
  vs = .ref x :: ws ∧ H = upd (upd H1 dx (.own x)) x (.ins C dx []) ∧ H1 x = none ∧ H1 dx = none ∧ dx ≠ x ∧ ds.length = n ∧ c.I H1 ∧ RA K (but H1 c.M) ds ws ∧ dT c.bag ds P Er ∧
  (∀ fs H', P fs → c.I H' → Ex c.S H1 H' → R K (but H' c.M) (.ins C fs) (.ref x) → Q .non H') ∧
  (∀ C d gs fs H', Er C fs → c.I H' → Ex c.S H1 H' → H' d = some (.xd gs) → RF K (but H' c.M) fs gs → E (.ref C) (some d) H')
def dMake (bag : Option (Addr × Addr)) (C : Addr) (n : Nat) (dT : DI0) (dd : List D) (da : DA) : DE := fun ρ P => da ρ fun xs b => (xs ++ dd).length = n ∧ dT bag (xs ++ dd) (fun fs => P (.ins C fs) b) fun _ _ => False
theorem sim_make {n : Nat} {dT : DI0} {dvs : List V} {dd : List D} {E : XK} {t : TA} {da : DA} (hd : ∀ H, RA K H dd dvs) (ha : SimA K c H0 t da) : SimE K c H0 (tMake C (spI K C n dT) dvs E t) (dMake c.bag C n dT dd da) := by
  intro ρ P h O σ H Q rp q
  refine ha ρ _ h O σ H _ rp fun vs xs b H1 h1 rp1 e1 rx => ?_
  intro x dx hx hdx hne
  cases b with
  | true => exact ⟨x, dx, vs ++ dvs, H1, c, xs ++ dd, _, _, rfl, rfl, hx, hdx, hne, h1.1, rp1.inv, RA.app rx (hd _), h1.2, fun fs H' hp i ex r => ⟨rfl, q _ _ _ H' hp (rp1.up ex i) (e1.trans ex) r⟩, fun C d gs fs H' hf => hf.elim⟩
  | false => exact ⟨x, dx, vs ++ dvs, H1, rp1.fm, xs ++ dd, _, _, rfl, rfl, hx, hdx, hne, h1.1, ⟨rp1.inv, rp1.liv⟩, RA.app rx (hd _), h1.2, fun fs H' hp i ex r => ⟨rfl, q _ _ _ H' hp (rp1.up ex i.1) (e1.trans ex) r⟩, fun C d gs fs H' hf => hf.elim⟩
end
/-- the frame of an __init__: self stands at x -/
def Fm.at (c : Fm) (x : Addr) : Fm := { c with me := some x }
theorem rep_startI {K : PySem.W.Frag} {c : Fm} {H1 : Hp} {N : List Str} {ds : List D} {ws : List V} {x dx C : Addr} (i : c.I H1) (ra : RA K (but H1 c.M) ds ws) (hx : H1 x = none) (hdx : H1 dx = none) (hne : dx ≠ x) (hn : 0 < N.length) :
    Rep K (c.at x) H1 [x] (upd (upd H1 dx (.own x)) x (.ins C dx [])) (L2.start N (.ref x :: ws)) (some (Ent.own (.ins C [])) :: dstart (N.length - 1) ds) := by
  have g1 : Grow H1 (upd H1 dx (.own x)) := Grow.new hdx
  have hx1 : upd H1 dx (.own x) x = none := by rw [upd_ne (fun e => hne e.symm)]; exact hx
  have rp0 : Rep K (c.at x) H1 [] (upd H1 dx (.own x)) (none :: L2.start N.tail ws) (none :: dstart (N.length - 1) ds) := by
    have r0 : Rep K c H1 [] H1 (L2.start N.tail ws) (dstart N.tail.length ds) := rep_start i ra
    rw [List.length_tail] at r0
    have r1 := r0.up (Ex.of g1) (c.st _ _ g1 i)
    refine ⟨r1.inv0, r1.inv, r1.ent, fun a h => by simp at h, fun a h => by simp at h, by rw [List.length_cons, List.length_cons, r1.len], fun k d q => ?_, fun k e q => ?_, fun k j d e p q1 q2 z1 z2 => ?_, fun x C fs _ q => ?_⟩
    · cases k with
      | zero => cases q
      | succ k => exact r1.val k d q
    · cases k with
      | zero => cases q
      | succ k => exact r1.own k e q
    · cases k with
      | zero => cases q1
      | succ k =>
        cases j with
        | zero => cases q2
        | succ j => exact congrArg _ (r1.sep k j d e p q1 q2 z1 z2)
    · cases q
  have rp1 := rp0.more (o := .ins C dx []) hx1
  have no := rp0.own_ne hx1
  have rp2 := rp1.setOwn 0 (p := x) (ds := .ins C []) List.mem_cons_self upd_same ⟨dx, [], rfl, rfl⟩ (fun j es _ => no j es) (fun y C' fs hm _ _ => by
    have : some x = some y := hm
    injection this)
  have e : L2.start N (.ref x :: ws) = (none :: L2.start N.tail ws).set 0 (some (.ref x)) := by
    cases N with
    | nil => simp at hn
    | cons a N => 
      unfold L2.start
      simp
  rw [e]
  exact rp2
theorem okI {P : Program} {w : World} {K : PySem.W.Frag} {mg : Str → Option Value} {base : Heap} {x qual : Str} {params : Arguments} {body : List Stmt} {scope : Scope} {dvs : List V} {kws : List (Str × V)} {f : Addr} {fd : FuncData} {N ps : List Str} {k n : Nat} {C : Addr} {dT : DI0}
    (F : FunD K x qual params body scope dvs kws f fd) (S : FnScope N ps scope) (hn : ps.length = n + 1) (hN : 0 < N.length)
    (hbody : ∀ (cdv : Value) (A : Around) (outer : List Env) (s : Shared) (H H1 : Hp) (E : XK) (c : Fm), Room k (A.deeper (PyProof.Rows.envOfC qual scope s.heap.objs.size f cdv)) →
      ∃ ts dsb, PSs (cxOf CX0 P w K mg base N qual scope f cdv A outer s H E).nox body ts ∧ SimS K c H1 ts dsb ∧ ∀ ds Pd Er, ds.length = n → dT c.bag ds Pd Er → dsb { nx := fun ρ => objE C ρ[0]? Pd, rt := fun _ => False } (some (Ent.own (.ins C [])) :: dstart (N.length - 1) ds)) :
    FnOk P w K mg base CX0 (k + 1) f fd ps (spI K C n dT) := by
  refine F.ok S (fun vs H Q E h => ?_) (fun cdv A outer s H vs Q E hr h => ?_)
  · obtain ⟨x, dx, ws, H1, c, ds, Pd, Er, rfl, rfl, hx, hdx, hne, hl, i, ra, hd, q, qe⟩ := h
    rw [List.length_cons, ra.length, hl, hn]
  · obtain ⟨x, dx, ws, H1, c, ds, Pd, Er, rfl, rfl, hx, hdx, hne, hl, i, ra, hd, q, qe⟩ := h
    obtain ⟨ts, dsb, hp, hs, hb⟩ := hbody cdv A outer s _ H1 E (c.at x) hr
    refine ⟨ts, hp.nox, ?_⟩
    have rp := rep_startI (K := K) (C := C) i ra hx hdx hne hN
    refine hs _ _ (hb ds Pd Er hl hd) [x] _ _ _ (but (upd (upd H1 dx (.own x)) x (.ins C dx [])) (c.M ++ [x])) rp (Grow.refl _) ⟨fun ρ O σ H' h rp' _ => ?_, fun v d H' h => h.elim, fun ρ O σ H' h => h.elim, fun ρ O σ H' h => h.elim⟩
    obtain ⟨fs, e0, h2⟩ := entObj (i := 0) h
    obtain ⟨p, o, hv, hp', hx', ow⟩ := rp'.own 0 _ e0
    have hp0 : p = x := by
      have := (rp'.me x C fs rfl e0).symm.trans hv
      injection this with this
      injection this with this
      injection this with this
      exact this.symm
    subst hp0
    exact q fs H' h2 rp'.inv rp'.ent (OwnR.R (but_of (rp'.notM hp') hx') (ow.grow (but_le fun a z => List.mem_append_left _ z)))
end QD

/-! QD14: == by an own __eq__. -/
namespace QD
open PySem L2
/-- x == y, where x is an object of a class with an own __eq__ -/
def rEqOwn (C : Addr) (sp : Sp) (E : XK) : R2 := fun x y H Q => ∃ a dx fs, x = .ref a ∧ H a = some (.ins C dx fs) ∧ ((∃ s, y = .str s) ∨ ∃ b dy gs, y = .ref b ∧ H b = some (.ins C dy gs)) ∧ sp [x, y] H Q E
theorem inst_of {P : Program} {w : World} {H : Hp} {h : Heap} {a C dx : Addr} {fs : List (Str × V)} (q : L2.ObjOk P w H h a (.ins C dx fs)) : ∃ od, PySem.W.InstAt h a (PySem.W.instObj C dx) C od := by
  simp only [L2.ObjOk] at q
  obtain ⟨h1, h2, h3, h4, mA, ⟨o, es, ep, h8, _⟩, h6, h7⟩ := q
  exact ⟨some o, ⟨h4, rfl, rfl, h8⟩⟩
theorem op_eqOwn {X : Cx} {CX : CXT} {k : Nat} {C f : Addr} {fd : FuncData} {ps : List Str} {sp : Sp} {E : XK} (F : FnOk X.prog X.w X.K X.mg X.base CX k f fd ps sp) (hr : Room k X.A)
    (at_ : PySem.W.findIn X.K (.ref C) "__eq__" = some (some (.ref f))) (fn : PySem.W.isFn X.K (.ref f) = true) (hb : Binds X.K fd ps []) (hx : Passes CX X E) (hu : X.A.units < cLine) (hs : PySem.W.notFirst X.K C (.type "str") = true) :
    OpR X (compareOp .Eq) (rEqOwn C sp E) := by
  intro pins s σ H x y v u Q I rv ru h
  obtain ⟨a, dx, fs, rfl, ha, hy, h⟩ := h
  have e : v = .ref a := rv
  subst e
  obtain ⟨od, hi⟩ := inst_of (I.hok a _ ha)
  obtain ⟨m, fr⟩ := I.fr
  refine PySem.W.cmp_ofEq ?_
  have run := run_fn (dvs := []) (us := [.ref a, u]) (vs := [.ref a, y]) F hr hb .nil hx I (.cons rfl (.cons ru .nil)) h
  have back : wpAny (model X.prog X.w) X.A (call (.ref f) [.ref a, u]) (PySem.W.CmpBack (EP X pins σ Q)) X.xe s := thn run fun z s' h => (by
    obtain ⟨v, H', i', r', q'⟩ := h
    cases z with
    | notImplemented => cases v <;> simp [RelV] at r'
    | _ => exact ⟨v, H', i', r', q'⟩)
  rcases hy with ⟨t, rfl⟩ | ⟨b, dy, gs, rfl, hb2⟩
  · obtain ⟨tk, rfl⟩ := ru
    exact PySem.W.cmp_K hu fr I.ok.mod.kin hi (PySem.W.looks_typeIn I.kIn (t := .type "str") rfl) hs at_ fn back
  · have e2 : u = .ref b := ru
    subst e2
    obtain ⟨od2, hi2⟩ := inst_of (I.hok b _ hb2)
    refine PySem.W.cmp_K hu fr I.ok.mod.kin hi (tb := .ref C) (fun A Q' E' s' hh hq => ?_) (by unfold PySem.W.notFirst; simp) at_ fn back
    exact wpAny_typeOf_ref (hh _ _ hi2.at_) hq
/-- what may stand on the right of it -/
def strOrIns (C : Addr) : D → Bool
  | .str _ => true
  | .ins C' _ => decide (C' = C)
  | _ => false
def dEqOwn (bag : Option (Addr × Addr)) (C : Addr) (dT : DF) : DR := fun x y P => asIns C x fun _ => strOrIns C y = true ∧ dT bag [x, y] P fun _ _ => False
theorem sr_eqOwn {K : PySem.W.Frag} {c : Fm} {H0 : Hp} {C : Addr} {dT : DF} {E : XK} : SimR K c H0 (rEqOwn C (spD K 2 dT) E) (dEqOwn c.bag C dT) := by
  intro x y P h O H Q v u b σ ρ rp rx ry q
  obtain ⟨fs, rfl, ⟨hy, h⟩, a, dx, gs, rfl, h1, h2⟩ := rb_ins rx h
  refine ⟨a, dx, gs, rfl, h1, ?_, ?_⟩
  · cases y with
    | str s => exact .inl ⟨s, ry⟩
    | ins C' fs' =>
      have := of_decide_eq_true hy
      subst this
      obtain ⟨a2, dx2, gs2, e2, h3, _⟩ := ry
      exact .inr ⟨a2, dx2, gs2, e2, (but_some h3).2⟩
    | non => cases hy
    | bl _ => cases hy
    | int _ => cases hy
    | lst _ => cases hy
    | tup _ => cases hy
    | raw _ => cases hy
    | lam _ => cases hy
    | dk _ => cases hy
    | dt _ => cases hy
  · cases b with
    | true => exact ⟨c, [.ins C fs, y], P, _, rfl, rp.inv, ⟨_, _, rfl, rx, _, _, rfl, ry, rfl⟩, h, fun w d H' hp i ex r => q _ _ _ hp ex i r, fun C d gs fs H' hf => hf.elim⟩
    | false => exact ⟨rp.fm, [.ins C fs, y], P, _, rfl, ⟨rp.inv, rp.liv⟩, ⟨_, _, rfl, rx, _, _, rfl, ry, rfl⟩, h, fun w d H' hp i ex r => q _ _ _ hp ex i.1 r, fun C d gs fs H' hf => hf.elim⟩
end QD

/-! QD15: making with keywords. -/
namespace QD
open PySem L2
section
variable {K : PySem.W.Frag} {c : Fm} {H0 : Hp} {C : Addr}
/-- C(a, .., k=b, ..): gV puts the values in the parameters' order, self first -/
def dMakeK (bag : Option (Addr × Addr)) (C : Addr) (n k m : Nat) (dT : DI0) (gD : List D → List D → List D) (da dk : DA) : DE := fun ρ P => da ρ fun xs b => dk ρ fun ys b' => (xs.length = k ∧ ys.length = m) ∧ (gD xs ys).length = n ∧ dT bag (gD xs ys) (fun fs => P (.ins C fs) (b || b')) fun _ _ => False
theorem sim_makeK {n k m : Nat} {dT : DI0} {gV gW : List V → List V → List V} {gD : List D → List D → List D} {E : XK} {t tk : TA} {da dk : DA} (hgV : ∀ x vs zs, vs.length = k → zs.length = m → gV (.ref x :: vs) zs = .ref x :: gW vs zs)
    (hg : ∀ {H : Hp} {xs ys : List D} {vs zs : List V}, xs.length = k → ys.length = m → RA K H xs vs → RA K H ys zs → RA K H (gD xs ys) (gW vs zs))
    (ha : SimA K c H0 t da) (hk : SimA K c H0 tk dk) : SimE K c H0 (tMakeK C k m (spI K C n dT) gV E t tk) (dMakeK c.bag C n k m dT gD da dk) := by
  intro ρ P h O σ H Q rp q
  refine ha ρ _ h O σ H _ rp fun vs xs b H1 h1 rp1 e1 rx => ?_
  refine hk ρ _ h1 O σ H1 _ rp1 fun zs ys b' H2 h2 rp2 e2 ry => ?_
  obtain ⟨⟨l1, l2⟩, l3, h3⟩ := h2
  refine ⟨by rw [rx.len]; exact l1, by rw [ry.len]; exact l2, fun x dx hx hdx hne => ?_⟩
  rw [hgV x vs zs (by rw [rx.len]; exact l1) (by rw [ry.len]; exact l2)]
  have rxy : RA K (but H2 (if (b || b') = true then c.M else c.M ++ O)) (gD xs ys) (gW vs zs) := hg l1 l2 (rx.up e2).or ry.or'
  generalize hb : (b || b') = bb at rxy h3
  cases bb with
  | true => exact ⟨x, dx, gW vs zs, H2, c, gD xs ys, _, _, rfl, rfl, hx, hdx, hne, l3, rp2.inv, rxy, h3, fun fs H' hp i ex r => ⟨rfl, q _ _ _ H' hp (rp2.up ex i) ((e1.trans e2).trans ex) r⟩, fun C d gs fs H' hf => hf.elim⟩
  | false => exact ⟨x, dx, gW vs zs, H2, rp2.fm, gD xs ys, _, _, rfl, rfl, hx, hdx, hne, l3, ⟨rp2.inv, rp2.liv⟩, rxy, h3, fun fs H' hp i ex r => ⟨rfl, q _ _ _ H' hp (rp2.up ex i.1) ((e1.trans e2).trans ex) r⟩, fun C d gs fs H' hf => hf.elim⟩
end
end QD

/-! QD16: what the class of an object defines, over the heap itself. -/
namespace QD
open PySem L2
theorem ns_some_of {K : PySem.W.Frag} {h : Heap} {N : Addr} {mg : Str → Option Value} {n : Str} {v : Value} (X : K.In h) (G : h.Ns N mg) (e : PySem.W.nsIn K N n = some (some v)) : mg n = some v := by
  obtain ⟨o, es, ep, ho, hd, hk, hf⟩ := G
  unfold PySem.W.nsIn at e
  split at e
  · rename_i cls dict es' epoch sl heq
    have := X N _ heq
    rw [ho] at this
    cases this
    cases hd
    split at e
    · rename_i q hq
      cases e
      rw [← hf n]
      unfold nsFind findBy
      rw [← Array.find?_toList, hq]
      rfl
    · split at e <;> cases e
  · cases e
theorem ns_of {K : PySem.W.Frag} {h : Heap} {N : Addr} (X : K.In h) (q : PySem.W.nsOkIn K N = true) : ∃ m, h.Ns N m := by
  have := PySem.W.isNs_of_in X q
  unfold Heap.isNs at this
  split at this
  · rename_i o ho
    split at this
    · rename_i es ep hd
      refine ⟨_, o, es, ep, ho, hd, fun e he => ?_, fun _ => rfl⟩
      have z := Array.all_eq_true_iff_forall_mem.mp this e he
      split at z
      · rename_i a t k
        exact ⟨a, t, k⟩
      · cases z
    · cases this
  · cases this
theorem own_sp {K : PySem.W.Frag} {h : Heap} {x C f N : Addr} {ox : Obj} {od : Option Obj} {nm q : Str} {bs bm : List Value} {hdct : Bool} {sn : List Str} {sub : List Value} {ab : Bool} {col : Option Bool} {dd : Option Addr} {k0 k1 k2 k3 k5 : Option Value} {newId : String} {B : String} {name : Str} {y : Option Value}
    (X : K.In h) (hi : PySem.W.InstAt h x ox C od) (lk : K.lookup C = some (excClassObj nm q C N bs bm hdct sn sub ab col dd k0 k1 k2 k3 k5 newId)) (ok : PySem.W.nsOkIn K N = true)
    (e : PySem.W.nsIn K N name = some (some (.ref f))) (tf : PySem.W.typeIn K (.ref f) = some (.type "function")) (hm : mroOf (.type B) = pure bm) (hy : typeLookup (.type B) name = pure y) : h.OwnSpecial x C f B name := by
  obtain ⟨m, G⟩ := ns_of X ok
  obtain ⟨of, lf, ct⟩ := Option.map_eq_some_iff.mp (show (K.lookup f).map (fun o => o.cls) = some (.type "function") from tf)
  exact ⟨ox, of, nm, q, N, bs, bm, hdct, sn, sub, ab, col, dd, k0, k1, k2, k3, k5, newId, m, y, hi.at_, hi.cls, X _ _ lk, G, ns_some_of X G e, X _ _ lf, ct, hm, hy⟩
theorem own_eqne {K : PySem.W.Frag} {h : Heap} {x C f N : Addr} {ox : Obj} {od : Option Obj} {nm q : Str} {bs bm : List Value} {hdct : Bool} {sn : List Str} {sub : List Value} {ab : Bool} {col : Option Bool} {dd : Option Addr} {k0 k1 k2 k3 k5 : Option Value} {newId : String} {B : String} {y : Option Value}
    (X : K.In h) (hi : PySem.W.InstAt h x ox C od) (lk : K.lookup C = some (excClassObj nm q C N bs bm hdct sn sub ab col dd k0 k1 k2 k3 k5 newId)) (ok : PySem.W.nsOkIn K N = true)
    (e : PySem.W.nsIn K N "__eq__" = some (some (.ref f))) (ne : PySem.W.nsIn K N "__ne__" = some none) (tf : PySem.W.typeIn K (.ref f) = some (.type "function")) (hm : mroOf (.type B) = pure bm) (hy : typeLookup (.type B) "__eq__" = pure y) : h.OwnEqNoNe x C f B bm := by
  obtain ⟨m, G⟩ := ns_of X ok
  obtain ⟨of, lf, ct⟩ := Option.map_eq_some_iff.mp (show (K.lookup f).map (fun o => o.cls) = some (.type "function") from tf)
  exact ⟨ox, of, nm, q, N, bs, hdct, sn, sub, ab, col, dd, k0, k1, k2, k3, k5, newId, m, y, hi.at_, hi.cls, X _ _ lk, G, ns_some_of X G e, X _ _ lf, ct, hm, hy, PySem.W.ns_none_of X G ne⟩
end QD

/-! QD17: != by an own __eq__. -/
namespace QD
open PySem L2
def rNeOwn (C : Addr) (sp : Sp) (E : XK) : R2 := fun x y H Q => ∃ a dx fs b dy gs, x = .ref a ∧ H a = some (.ins C dx fs) ∧ y = .ref b ∧ H b = some (.ins C dy gs) ∧ sp [x, y] H (fun v H' => ∃ k, v = .bl k ∧ Q (.bl (!k)) H') E
def inX (X : Cx) : Cx := { X with A := X.A.in1 }
theorem ok_in {X : Cx} (o : X.Ok) : (inX X).Ok := ⟨o.mod, o.kind, o.glob, o.blt, o.above, o.inj, o.has, o.cab, o.hd, o.frames, o.stk, o.exf, o.bs, o.bsz, o.noex, o.exfs, o.funs, o.frf⟩
theorem ok_out {X : Cx} (o : (inX X).Ok) : X.Ok := ⟨o.mod, o.kind, o.glob, o.blt, o.above, o.inj, o.has, o.cab, o.hd, o.frames, o.stk, o.exf, o.bs, o.bsz, o.noex, o.exfs, o.funs, o.frf⟩
theorem inv_in {X : Cx} {pins : List (Addr × Obj)} {σ : L2.St} {H : Hp} {s : Shared} (I : L2.Inv X pins σ H s) : L2.Inv (inX X) pins σ H s := ⟨ok_in I.ok, I.os, I.bare, I.base, I.loc, I.cell, I.free, I.freeC, I.pin, I.hok, I.len⟩
theorem inv_out {X : Cx} {pins : List (Addr × Obj)} {σ : L2.St} {H : Hp} {s : Shared} (I : L2.Inv (inX X) pins σ H s) : L2.Inv X pins σ H s := ⟨ok_out I.ok, I.os, I.bare, I.base, I.loc, I.cell, I.free, I.freeC, I.pin, I.hok, I.len⟩
theorem room_in {k : Nat} {A : Around} (r : Room (k + 1) A) : Room k A.in1 := ⟨r.hd, by have := r.dp; show A.depth + 3 * k + 5 < recursionLimit; omega, by have := r.un; show A.units + 1 + 16 * k + 200 < cLine; omega⟩
theorem cmp_object : CmpFacts "object" [.type "object"] := ⟨rfl, PySem.F.slot_object_eq, PySem.F.slot_object_ne, rfl, fun a => rfl⟩
theorem op_neOwn {X : Cx} {CX : CXT} {k : Nat} {C f N : Addr} {fd : FuncData} {ps : List Str} {sp : Sp} {E : XK} {nm q : Str} {bs : List Value} {hdct : Bool} {sn : List Str} {sub : List Value} {ab : Bool} {col : Option Bool} {dd : Option Addr} {k0 k1 k2 k3 k5 : Option Value} {newId : String} {y : Option Value}
    (F : FnOk X.prog X.w X.K X.mg X.base CX k f fd ps sp) (hr : Room (k + 1) X.A) (hb : Binds X.K fd ps []) (hx : Passes CX X E)
    (lk : X.K.lookup C = some (excClassObj nm q C N bs [.type "object"] hdct sn sub ab col dd k0 k1 k2 k3 k5 newId)) (ok : PySem.W.nsOkIn X.K N = true)
    (e : PySem.W.nsIn X.K N "__eq__" = some (some (.ref f))) (ne : PySem.W.nsIn X.K N "__ne__" = some none) (tf : PySem.W.typeIn X.K (.ref f) = some (.type "function")) (hy : typeLookup (.type "object") "__eq__" = pure y) :
    OpR X (compareOp .NotEq) (rNeOwn C sp E) := by
  intro pins s σ H x y' v u Q I rv ru h
  obtain ⟨a, dx, fs, b, dy, gs, rfl, ha, rfl, hb2, h⟩ := h
  have e1 : v = .ref a := rv
  have e2 : u = .ref b := ru
  subst e1 e2
  obtain ⟨od, hi⟩ := inst_of (I.hok a _ ha)
  obtain ⟨od2, hi2⟩ := inst_of (I.hok b _ hb2)
  refine PySem.W.cmp_ofNotEq ?_
  have oe := own_eqne I.kIn hi lk ok e ne tf cmp_object.mro hy
  have run := run_fn (X := inX X) (dvs := []) (us := [.ref a, .ref b]) (vs := [.ref a, .ref b]) F (room_in hr) hb .nil (fun p σ H s e s' i c => hx p σ H s e s' (inv_out i) c) (inv_in I) (.cons rfl (.cons rfl .nil)) h
  obtain ⟨heap, gens, drawn, toks, os⟩ := s
  refine richCompare_ne_ownEq cmp_object oe hi2.at_ rfl (by have := hr.un; omega) (thn run fun z s' hz => ?_)
  obtain ⟨v, H', i', r', kk, rfl, q'⟩ := hz
  exact ⟨kk, r', .bl (!kk), H', inv_out i', rfl, q'⟩
def dNeOwn (bag : Option (Addr × Addr)) (C : Addr) (dT : DF) : DR := fun x y P => asIns C x fun _ => asIns C y fun _ => dT bag [x, y] (fun z => asBl z fun k => P (.bl (!k))) fun _ _ => False
theorem sr_neOwn {K : PySem.W.Frag} {c : Fm} {H0 : Hp} {C : Addr} {dT : DF} {E : XK} : SimR K c H0 (rNeOwn C (spD K 2 dT) E) (dNeOwn c.bag C dT) := by
  intro x y P h O H Q v u b σ ρ rp rx ry q
  obtain ⟨fs, rfl, h, a, dx, gs, rfl, h1, h2⟩ := rb_ins rx h
  obtain ⟨fs', rfl, h, a', dx', gs', rfl, h1', h2'⟩ := rb_ins ry h
  refine ⟨a, dx, gs, a', dx', gs', rfl, h1, rfl, h1', ?_⟩
  have fin : ∀ (v : V) (d : D) (M : Hp), asBl d (fun k => P (.bl (!k))) → R K M d v → ∃ k, v = .bl k ∧ P (.bl (!k)) := fun v d M hp r => by
    cases d with
    | bl k => exact ⟨k, r, hp⟩
    | non => exact hp.elim
    | int _ => exact hp.elim
    | str _ => exact hp.elim
    | lst _ => exact hp.elim
    | tup _ => exact hp.elim
    | ins _ _ => exact hp.elim
    | lam _ => exact hp.elim
    | dk _ => exact hp.elim
    | dt _ => exact hp.elim
    | raw _ => exact hp.elim
  cases b with
  | true => exact ⟨c, [.ins C fs, .ins C fs'], _, _, rfl, rp.inv, ⟨_, _, rfl, rx, _, _, rfl, ry, rfl⟩, h, fun w d H' hp i ex r => (by
      obtain ⟨k, e, hp⟩ := fin w d _ hp r
      exact ⟨k, e, q _ _ _ hp ex i rfl⟩), fun C d gs fs H' hf => hf.elim⟩
  | false => exact ⟨rp.fm, [.ins C fs, .ins C fs'], _, _, rfl, ⟨rp.inv, rp.liv⟩, ⟨_, _, rfl, rx, _, _, rfl, ry, rfl⟩, h, fun w d H' hp i ex r => (by
      obtain ⟨k, e, hp⟩ := fin w d _ hp r
      exact ⟨k, e, q _ _ _ hp ex i.1 rfl⟩), fun C d gs fs H' hf => hf.elim⟩
end QD

/-! QD18: repr(x) by an own __repr__. -/
namespace QD
open PySem L2
def rReprOwn (C : Addr) (sp : Sp) (E : XK) : List V → Hp → VK → Prop := fun xs H Q => ∃ a dx fs, xs = [.ref a] ∧ H a = some (.ins C dx fs) ∧ sp [.ref a] H (fun v H' => ∃ t, v = .str t ∧ Q (.str t) H') E
theorem call_reprOwn {X : Cx} {CX : CXT} {k : Nat} {C f N : Addr} {fd : FuncData} {ps : List Str} {sp : Sp} {E : XK} {nm q : Str} {bs : List Value} {hdct : Bool} {sn : List Str} {sub : List Value} {ab : Bool} {col : Option Bool} {dd : Option Addr} {k0 k1 k2 k3 k5 : Option Value} {newId : String} {y : Option Value}
    (F : FnOk X.prog X.w X.K X.mg X.base CX k f fd ps sp) (hr : Room (k + 1) X.A) (hb : Binds X.K fd ps []) (hx : Passes CX X E)
    (lk : X.K.lookup C = some (excClassObj nm q C N bs [.type "object"] hdct sn sub ab col dd k0 k1 k2 k3 k5 newId)) (ok : PySem.W.nsOkIn X.K N = true)
    (e : PySem.W.nsIn X.K N "__repr__" = some (some (.ref f))) (tf : PySem.W.typeIn X.K (.ref f) = some (.type "function")) (hy : typeLookup (.type "object") "__repr__" = pure y) :
    CallR X (.builtin "repr") (rReprOwn C sp E) := by
  intro pins s σ H xs us Q I rv h
  obtain ⟨a, dx, fs, rfl, ha, h⟩ := h
  cases rv with
  | cons e1 e2 =>
  cases e2
  have e1 : _ = Value.ref a := e1
  subst e1
  obtain ⟨od, hi⟩ := inst_of (I.hok a _ ha)
  have oe := own_sp I.kIn hi lk ok e tf cmp_object.mro hy
  have run := run_fn (X := inX X) (dvs := []) (us := [.ref a]) (vs := [.ref a]) F (room_in hr) hb .nil (fun p σ H s e s' i c => hx p σ H s e s' (inv_out i) c) (inv_in I) (.cons rfl .nil) h
  obtain ⟨heap, gens, drawn, toks, os⟩ := s
  refine repr_own oe (by have := hr.un; show X.A.units + 1 < cLine; omega) (thn run fun z s' hz => ?_)
  obtain ⟨v, H', i', r', t, rfl, q'⟩ := hz
  obtain ⟨tk, rfl⟩ := r'
  exact ⟨t, tk, rfl, .str t, H', inv_out i', ⟨tk, rfl⟩, q'⟩
def dReprOwn (bag : Option (Addr × Addr)) (C : Addr) (dT : DF) : DC := fun xs P => match xs with | [x] => asIns C x fun _ => dT bag [x] (fun z => asStr z fun t => P (.str t)) fun _ _ => False | _ => False
theorem sc_reprOwn {K : PySem.W.Frag} {c : Fm} {H0 : Hp} {C : Addr} {dT : DF} {E : XK} : SimC K c H0 (rReprOwn C (spD K 1 dT) E) (dReprOwn c.bag C dT) := by
  intro xs P h O H Q vs b σ ρ rp rx q
  unfold dReprOwn at h
  split at h
  · rename_i x
    obtain ⟨v, r, rfl, rx, e⟩ := rx
    have e : r = [] := e
    subst e
    obtain ⟨fs, rfl, h, a, dx, gs, rfl, h1, h2⟩ := rb_ins rx h
    refine ⟨a, dx, gs, rfl, h1, ?_⟩
    have fin : ∀ (v : V) (d : D) (M : Hp), asStr d (fun t => P (.str t)) → R K M d v → ∃ t, v = .str t ∧ P (.str t) := fun v d M hp r => by
      cases d with
      | str t => exact ⟨t, r, hp⟩
      | non => exact hp.elim
      | bl _ => exact hp.elim
      | int _ => exact hp.elim
      | lst _ => exact hp.elim
      | tup _ => exact hp.elim
      | ins _ _ => exact hp.elim
      | lam _ => exact hp.elim
      | dk _ => exact hp.elim
      | dt _ => exact hp.elim
      | raw _ => exact hp.elim
    cases b with
    | true => exact ⟨c, [.ins C fs], _, _, rfl, rp.inv, ⟨_, _, rfl, rx, rfl⟩, h, fun w d H' hp i ex r => (by
        obtain ⟨k, e, hp⟩ := fin w d _ hp r
        exact ⟨k, e, q _ _ _ hp ex i rfl⟩), fun C d gs fs H' hf => hf.elim⟩
    | false => exact ⟨rp.fm, [.ins C fs], _, _, rfl, ⟨rp.inv, rp.liv⟩, ⟨_, _, rfl, rx, rfl⟩, h, fun w d H' hp i ex r => (by
        obtain ⟨k, e, hp⟩ := fin w d _ hp r
        exact ⟨k, e, q _ _ _ hp ex i.1 rfl⟩), fun C d gs fs H' hf => hf.elim⟩
  · exact h.elim
end QD

/-! QD19: what is never reached; f-strings; written dicts; several names at once; methods, static methods, properties; isinstance of own classes. -/
namespace QD
open PySem L2

/-! ### what is never reached -/
theorem ps_no {X : Cx} {st : Stmt} : PS X st (fun _ _ _ => False) := ⟨fun pins s σ H D I h => h.elim⟩
theorem pe_no {X : Cx} {e : Expr} : PE X e (fun _ _ _ => False) := ⟨fun pins s σ H Q I h => h.elim⟩
def dNoS : DS := fun _ _ => False
def dNoE : DE := fun _ _ => False
section
variable {K : PySem.W.Frag} {c : Fm} {H0 : Hp} {ta tb te : TE} {da db de : DE}
theorem sim_noS : SimS K c H0 (fun _ _ _ => False) dNoS := fun _ _ h => h.elim
theorem sim_noE : SimE K c H0 (fun _ _ _ => False) dNoE := fun _ _ h => h.elim

/-! ### f-strings -/
def fmtD : D → (Str → Prop) → Prop
  | .str y, P => y.length ≤ sizeLine ∧ P y
  | .int i, P => i.natAbs.log2 < 1920 ∧ P (toString i)
  | _, _ => False
def dFmt (da : DE) : DE := fun ρ P => da ρ fun x _ => fmtD x fun y => P (.str y) false
theorem sim_fmt (ha : SimE K c H0 ta da) : SimE K c H0 (tFmt ta) (dFmt da) := by
  intro ρ P h O σ H Q rp q
  refine ha ρ _ h O σ H _ rp fun v x b H1 h1 rp1 e1 rx => ?_
  unfold fmtD at h1
  split at h1
  · rename_i y
    exact .inl ⟨y, rx, h1.1, q _ _ _ H1 h1.2 rp1 e1 rfl⟩
  · rename_i i
    exact .inr ⟨i, rx, h1.1, q _ _ _ H1 h1.2 rp1 e1 rfl⟩
  · exact h1.elim
def dJs : List DE → Str → DEnv → (Str → Prop) → Prop
  | [], acc, _, P => P acc
  | d :: ds, acc, ρ, P => d ρ fun x _ => asStr x fun y => (acc ++ y).length ≤ sizeLine ∧ dJs ds (acc ++ y) ρ P
inductive SimJ (K : PySem.W.Frag) (c : Fm) (H0 : Hp) : List TE → List DE → Prop where
  | nil : SimJ K c H0 [] []
  | cons {t : TE} {d : DE} {ts : List TE} {ds : List DE} (h : SimE K c H0 t d) (r : SimJ K c H0 ts ds) : SimJ K c H0 (t :: ts) (d :: ds)
def dJoined (ds : List DE) : DE := fun ρ P => dJs ds Str.empty ρ fun out => P (.str out) false
theorem sim_js {ts : List TE} {ds : List DE} (hs : SimJ K c H0 ts ds) : ∀ (acc : Str) (ρ : DEnv) (P : Str → Prop), dJs ds acc ρ P → ∀ O σ H (Q : Str → Hp → Prop), Rep K c H0 O H σ ρ → (∀ out H', P out → Rep K c H0 O H' σ ρ → Ex c.S H H' → Q out H') → tJs ts acc σ H Q := by
  induction hs with
  | nil =>
    intro acc ρ P h O σ H Q rp q
    exact q acc H h rp (Ex.refl H)
  | cons hd r ih =>
    intro acc ρ P h O σ H Q rp q
    refine hd ρ _ h O σ H _ rp fun v x b H1 h1 rp1 e1 rx => ?_
    obtain ⟨y, ey, h2⟩ := rb_str rx h1
    exact ⟨y, ey, h2.1, ih _ ρ P h2.2 O σ H1 Q rp1 fun out H' hp rp' e' => q out H' hp rp' (e1.trans e')⟩
theorem sim_joined {ts : List TE} {ds : List DE} (hs : SimJ K c H0 ts ds) : SimE K c H0 (fun σ H Q => tJs ts Str.empty σ H fun out H1 => Q (.str out) H1) (dJoined ds) := by
  intro ρ P h O σ H Q rp q
  exact sim_js hs Str.empty ρ _ h O σ H _ rp fun out H' hp rp' e' => q _ _ _ H' hp rp' e' rfl

/-! ### a written dict with text keys -/
/-- at a: a written dict; tab: some of its keys, with the data that stand there -/
structure KTab (K : PySem.W.Frag) (w : World) (a : Addr) (tab : List (Str × D)) : Prop where
  dct : ∃ es n, KDict K w a es n
  val : ∀ p ∈ tab, ∃ u v, PySem.W.nsIn K a p.1 = some (some u) ∧ RelV v u ∧ ∀ H, R K H p.2 v
def rInK (K : PySem.W.Frag) (neg : Bool) (a : Addr) : R2 := fun x y H Q => ∃ (z : Str) (r : Option Value), x = .str z ∧ y = .ref a ∧ PySem.W.nsIn K a z = some r ∧ Q (.bl (if neg then !r.isSome else r.isSome)) H
theorem q_inK {X : Cx} {a : Addr} {tab : List (Str × D)} (T : KTab X.K X.w a tab) : OpR X (compareOp .In) (rInK X.K false a) := by
  obtain ⟨es, n, D⟩ := T.dct
  exact op_in_kd D
theorem q_ninK {X : Cx} {a : Addr} {tab : List (Str × D)} (T : KTab X.K X.w a tab) : OpR X (compareOp .NotIn) (rInK X.K true a) := by
  obtain ⟨es, n, D⟩ := T.dct
  exact op_notIn_kd D
def isRaw (a : Addr) : D → Prop
  | .raw (.ref b) => b = a
  | _ => False
theorem isRaw_of {H : Hp} {a : Addr} {v : V} : ∀ {d : D}, isRaw a d → R K H d v → v = .ref a
  | .raw (.ref b), h, r => by
    have h : b = a := h
    rw [show v = .ref b from r, h]
  | .non, h, _ => h.elim
  | .bl _, h, _ => h.elim
  | .int _, h, _ => h.elim
  | .str _, h, _ => h.elim
  | .lst _, h, _ => h.elim
  | .tup _, h, _ => h.elim
  | .ins _ _, h, _ => h.elim
  | .lam _, h, _ => h.elim
  | .dk _, h, _ => h.elim
  | .dt _, h, _ => h.elim
def keyD (x : D) (tab : List (Str × D)) : Option D := match x with | .str z => tab.lookup z | _ => none
theorem lookup_mem {z : Str} {d : D} : ∀ {tab : List (Str × D)}, tab.lookup z = some d → (z, d) ∈ tab
  | [], h => by cases h
  | (g, y) :: r, h => by
    rw [List.lookup_cons] at h
    by_cases e : (z == g) = true
    · rw [e] at h
      cases h
      rw [beq_iff_eq] at e
      rw [e]
      exact List.mem_cons_self
    · have e' : (z == g) = false := by cases q : (z == g) with | true => exact absurd q e | false => rfl
      rw [e'] at h
      exact List.mem_cons_of_mem _ (lookup_mem h)
theorem keyD_of {x : D} {tab : List (Str × D)} {d : D} (h : keyD x tab = some d) : ∃ z, x = .str z ∧ (z, d) ∈ tab := by
  cases x with
  | str z => exact ⟨z, rfl, lookup_mem h⟩
  | _ => cases h
def dInK (neg : Bool) (a : Addr) (tab : List (Str × D)) : DR := fun x y P => isRaw a y ∧ optP (keyD x tab) fun _ => P (.bl (!neg))
theorem sr_inK {w : World} {neg : Bool} {a : Addr} {tab : List (Str × D)} (T : KTab K w a tab) : SimR K c H0 (rInK K neg a) (dInK neg a tab) := by
  intro x y P h O H Q v u b σ ρ rp rx ry q
  obtain ⟨hy, h0⟩ := h
  obtain ⟨d, e, h2⟩ := optP_some h0
  obtain ⟨z, rfl, hm⟩ := keyD_of e
  obtain ⟨u0, v0, e1, _, _⟩ := T.val _ hm
  refine ⟨z, some u0, rx, isRaw_of hy ry.here, e1, ?_⟩
  have : (if neg then !(some u0).isSome else (some u0).isSome) = !neg := by cases neg <;> rfl
  rw [this]
  exact q _ _ H h2 (Ex.refl H) rp.inv rfl
def dIxK (a : Addr) (tab : List (Str × D)) : DR := fun x y P => isRaw a x ∧ optP (keyD y tab) P
theorem ix_kt {X : Cx} {a : Addr} {tab : List (Str × D)} (T : KTab X.K X.w a tab) : IxR X (rIxD X.K X.w) := ix_kdict
theorem sr_ixK {w : World} {a : Addr} {tab : List (Str × D)} (T : KTab K w a tab) : SimR K c H0 (rIxD K w) (dIxK a tab) := by
  intro x y P h O H Q v u b σ ρ rp rx ry q
  obtain ⟨hx, h0⟩ := h
  obtain ⟨d, e, h2⟩ := optP_some h0
  obtain ⟨z, rfl, hm⟩ := keyD_of e
  obtain ⟨u0, v0, e1, r1, rd⟩ := T.val _ hm
  obtain ⟨es, n, kd⟩ := T.dct
  exact ⟨a, z, v0, isRaw_of hx rx.here, ry, ⟨es, n, u0, kd.at_, kd.lit, e1, r1⟩, q _ _ H h2 (Ex.refl H) rp.inv (rd _)⟩

/-! ### several names at once -/
def gNames : List Nat → TGs
  | [] => gNil
  | i :: is => gCons (gName i) (gNames is)
def setAll (ρ : DEnv) : List Nat → List D → DEnv
  | i :: is, d :: ds => setAll (ρ.set i (some (Ent.val d))) is ds
  | _, _ => ρ
def dGTup (is : List Nat) : DG := fun x ρ P => match x with | .tup ds => ds.length = is.length ∧ P (setAll ρ is ds) | _ => False
def dGLst (is : List Nat) : DG := fun x ρ P => match x with | .lst ds => ds.length = is.length ∧ P (setAll ρ is ds) | _ => False
theorem setAll_len : ∀ (is : List Nat) (ds : List D) (ρ : DEnv), (setAll ρ is ds).length = ρ.length
  | [], _, ρ => rfl
  | _ :: _, [], ρ => rfl
  | i :: is, d :: ds, ρ => by
    show (setAll (ρ.set i (some (Ent.val d))) is ds).length = _
    rw [setAll_len, List.length_set]
theorem setAll_get {j : Nat} : ∀ (is : List Nat) (ds : List D) (ρ : DEnv), j ∉ is → (setAll ρ is ds)[j]? = ρ[j]?
  | [], _, ρ, _ => rfl
  | _ :: _, [], ρ, _ => rfl
  | i :: is, d :: ds, ρ, h => by
    show (setAll (ρ.set i (some (Ent.val d))) is ds)[j]? = _
    rw [setAll_get is ds _ fun z => h (List.mem_cons_of_mem _ z), List.getElem?_set_ne]
    intro e
    exact h (e ▸ List.mem_cons_self)
theorem gNames_run {O : List Addr} {H : Hp} {Q : L2.St → Hp → Prop} : ∀ (is : List Nat) (ds : List D) (vs : List V) (σ : L2.St) (ρ : DEnv), ds.length = is.length → Rep K c H0 O H σ ρ → RA K (but H (c.M ++ O)) ds vs →
    (∀ σ', Rep K c H0 O H σ' (setAll ρ is ds) → σ'.length = σ.length → (∀ j, j ∉ is → σ'[j]? = σ[j]?) → Q σ' H) → gNames is vs σ H Q
  | [], [], vs, σ, ρ, _, rp, ra, q => ⟨ra, q σ rp rfl fun _ _ => rfl⟩
  | i :: is, d :: ds, vs, σ, ρ, hl, rp, ra, q => by
    obtain ⟨v, r, rfl, h1, h2⟩ := ra
    refine ⟨v, r, rfl, ?_⟩
    refine gNames_run is ds r _ _ (by simpa using hl) (rp.setVal i h1) h2 fun σ' rp' l' st => q σ' rp' (by rw [l', List.length_set]) fun j hj => ?_
    rw [st j fun z => hj (List.mem_cons_of_mem _ z), List.getElem?_set_ne]
    intro e
    exact hj (e ▸ List.mem_cons_self)
  | [], _ :: _, _, _, _, hl, _, _, _ => by simp at hl
  | _ :: _, [], _, _, _, hl, _, _, _ => by simp at hl
theorem sgn_tup {is : List Nat} : SimGn K c H0 (gTup K is.length (gNames is)) (dGTup is) is := by
  intro x ρ P h v O σ H Q rp rv q
  unfold dGTup at h
  split at h
  · rename_i ds
    obtain ⟨a, xs, rfl, h1, h2⟩ := rv
    refine ⟨a, xs, rfl, grow_t but_grow h1, by rw [h2.length]; exact h.1, ?_⟩
    exact gNames_run is ds xs σ ρ h.1 rp h2 fun σ' rp' l' st => q _ σ' h.2 rp' l' fun j hj => ⟨st j hj, setAll_get _ _ _ hj⟩
  · exact h.elim
theorem sgn_lst {is : List Nat} : SimGn K c H0 (gLst K is.length (gNames is)) (dGLst is) is := by
  intro x ρ P h v O σ H Q rp rv q
  unfold dGLst at h
  split at h
  · rename_i ds
    obtain ⟨a, xs, rfl, h1, h2⟩ := rv
    refine ⟨a, xs, rfl, .inl (.inl (but_some h1).2), by rw [h2.length]; exact h.1, ?_⟩
    exact gNames_run is ds xs σ ρ h.1 rp h2 fun σ' rp' l' st => q _ σ' h.2 rp' l' fun j hj => ⟨st j hj, setAll_get _ _ _ hj⟩
  · exact h.elim

/-! ### a call by data, however it is made -/
theorem sp_call {n : Nat} {dT : DF} {E : XK} {O : List Addr} {H : Hp} {σ : L2.St} {ρ : DEnv} {b : Bool} {ds : List D} {vs : List V} {P : D → Prop} {Q : VK} (rp : Rep K c H0 O H σ ρ) (ra : RBA K c O H b ds vs) (hn : ds.length = n) (hd : dT c.bag ds P fun _ _ => False)
    (q : ∀ v d H', P d → Rep K c H0 O H' σ ρ → Ex c.S H H' → RB K c O H' b d v → Q v H') : spD K n dT vs H Q E := by
  cases b with
  | true => exact ⟨c, ds, P, _, hn, rp.inv, ra, hd, fun v d H' hp i ex r => q v d H' hp (rp.up ex i) ex r, fun C d gs fs H' hf => hf.elim⟩
  | false => exact ⟨rp.fm, ds, P, _, hn, ⟨rp.inv, rp.liv⟩, ra, hd, fun v d H' hp i ex r => q v d H' hp (rp.up ex i.1) ex r, fun C d gs fs H' hf => hf.elim⟩

/-! ### o.m(..), o.f -/
def dMeth (bag : Option (Addr × Addr)) (C : Addr) (m : Str) (n : Nat) (dT : DF) (dd : List D) (do_ : DE) (da : DA) : DE := fun ρ P => do_ ρ fun x b0 => asIns C x fun fs => fs.lookup m = none ∧ da ρ fun xs b => (x :: xs ++ dd).length = n ∧ dT bag (x :: xs ++ dd) (fun z => P z (dirt z (b0 || b))) fun _ _ => False
theorem RF.lookup_none {H : Hp} {f : Str} : ∀ {fs : List (Str × D)} {gs : List (Str × V)}, RF K H fs gs → fs.lookup f = none → gs.lookup f = none
  | [], _, h, _ => by
    have : _ = [] := h
    subst this
    rfl
  | (g, x) :: r, _, h, e => by
    obtain ⟨v, r', rfl, h1, h2⟩ := h
    rw [List.lookup_cons] at e ⊢
    by_cases k : (f == g) = true
    · rw [k] at e
      cases e
    · have k' : (f == g) = false := by cases q : (f == g) with | true => exact absurd q k | false => rfl
      rw [k'] at e ⊢
      exact RF.lookup_none h2 e
theorem sim_meth {C : Addr} {m : Str} {n : Nat} {dT : DF} {dvs : List V} {dd : List D} {E : XK} {t : TA} {dts : DA} (hd : ∀ H, RA K H dd dvs) (ho : SimE K c H0 ta da) (ha : SimA K c H0 t dts) : SimE K c H0 (tMeth C m (spD K n dT) dvs E ta t) (dMeth c.bag C m n dT dd da dts) := by
  intro ρ P h O σ H Q rp q
  refine ho ρ _ h O σ H _ rp fun v x b H1 h1 rp1 e1 rx => ?_
  obtain ⟨fs, rfl, h2, a, dx, gs, rfl, g1, g2⟩ := rb_ins rx h1
  refine ⟨a, dx, gs, rfl, g1, RF.lookup_none g2 h2.1, ?_⟩
  refine ha ρ _ h2.2 O σ H1 _ rp1 fun vs xs b' H2 h3 rp2 e2 rxs => ?_
  refine sp_call (b := b || b') rp2 (show RBA K c O H2 (b || b') (.ins C fs :: xs ++ dd) (.ref a :: vs ++ dvs) from ⟨_, _, rfl, (rx.up e2).or, RA.app rxs.or' (hd _)⟩) h3.1 h3.2 fun w z H' hp rp' ex rz => q w z _ H' hp rp' ((e1.trans e2).trans ex) rz.dirt
/-- o.f by a property -/
def dProp (bag : Option (Addr × Addr)) (C : Addr) (dT : DF) (da : DE) : DE := fun ρ P => da ρ fun x b => asIns C x fun _ => dT bag [x] (fun z => P z (dirt z b)) fun _ _ => False
theorem sim_prop {C : Addr} {dT : DF} {E : XK} (ha : SimE K c H0 ta da) : SimE K c H0 (tProp C (spD K 1 dT) [] E ta) (dProp c.bag C dT da) := by
  intro ρ P h O σ H Q rp q
  refine ha ρ _ h O σ H _ rp fun v x b H1 h1 rp1 e1 rx => ?_
  obtain ⟨fs, rfl, h2, a, dx, gs, rfl, g1, g2⟩ := rb_ins rx h1
  refine ⟨a, dx, gs, rfl, g1, ?_⟩
  exact sp_call (b := b) rp1 (show RBA K c O H1 b [.ins C fs] [.ref a] from ⟨_, _, rfl, rx, rfl⟩) rfl h2 fun w z H' hp rp' ex rz => q w z _ H' hp rp' (e1.trans ex) rz.dirt

/-! ### C.m(..), a static method -/
/-- C.m is a static method: its record at p, its def at g -/
structure SMet (K : PySem.W.Frag) (C : Addr) (mc : Value) (m : Str) (p g : Addr) : Prop where
  at_ : PySem.W.findCls K (.ref C) mc m = some (.get (.builtin "staticmethod.__get__") (.ref p) .none (.ref C))
  rc : ∃ rest, PySem.W.recIn K p "staticmethod" = some (.ref g :: rest)
  kp : PySem.W.keepIn K (.ref g) = true
end
section
variable {X : Cx} {pins : List (Addr × Obj)} {σ : L2.St} {H : Hp} {s : Shared} {C p g : Addr} {mc : Value} {m : Str}
theorem getsm_ok {A : Around} {E : Value → Shared → Prop} {b : Bool} {Q : Value → Shared → Prop} (I : L2.Inv X pins σ H s) (r : ClX.CRead X.K C mc) (k : SMet X.K C mc m p g)
    (h : ∀ s', L2.Inv X pins σ H s' → Q (.ref g) s') : wpAny (model X.prog X.w) A (getAttr (.ref C) m b) Q E s := by
  obtain ⟨rest, hp⟩ := k.rc
  refine PySem.W.cls_bind I.kIn r.rd k.at_ ?_
  refine wpAny_call (PySem.W.sm_get (s := { s with toks := s.toks + 1 }) I.kIn hp (PySem.W.handed_on rfl ?_))
  exact h _ (I.tok _)
/-- C.m(e, ..) -/
theorem pe_smeth {CX : CXT} {k : Nat} {fd : FuncData} {ps : List Str} {sp : Sp} {E : XK} {o e : Expr} {es : List Expr} {pos apos : Pos} {ta : TE} {t : TA} {dvs : List V} {ds : List Value} {pl : Sem Bool} (he : PE X o ta) (r : ClX.CRead X.K C mc) (c : SMet X.K C mc m p g) (F : FnOk X.prog X.w X.K X.mg X.base CX k g fd ps sp) (hr : Room k X.A) (hb : Binds X.K fd ps ds) (hd : Vals dvs ds) (hx : Passes CX X E) (ha : PA X (e :: es) t)
    (hst : starEach (e :: es) X.env = (false, eval e X.env) :: starEach es X.env := by rfl) (hpl : (backTo pos (starEach es X.env)).any (·.1) = false := by rfl)
    (ht : eval (.Call (.Attribute o m apos) (e :: es) [] pos) X.env = (do
      let ov ← eval o X.env
      standAt apos.atName
      let (f, first) ← holding [ov] (getMethod ov m pl)
      callWith pos f first (backTo pos (starEach (e :: es) X.env)) (backToKw pos (keywordEach [] X.env))) := by rfl) :
    PE X (.Call (.Attribute o m apos) (e :: es) [] pos) (fun σ H Q => ta σ H fun x H1 => x = .ref C ∧ t σ H1 fun vs H2 => sp (vs ++ dvs) H2 Q E) := by
  refine ⟨fun pins s σ H Q I h => ?_⟩
  refine PySem.W.methodCall_KW (pl := pl) (thn (he.run pins s σ H _ I h) fun u s1 ⟨x, H1, I1, rx, ex, q⟩ => ?_) ht
  subst ex
  obtain rfl : u = Value.ref C := rx
  refine PySem.W.method_cls I1.kIn r.ga (getsm_ok I1 r c fun s2 I2 => ?_)
  refine PySem.W.callWith_K (first := []) (h₀ := X.base) I2.ok.mod.kin c.kp (thn (ha.run pos pins s2 σ H1 _ I2 q) fun us s3 ⟨vs, H2, I3, rv, q2⟩ => ⟨I3.kIn, ?_⟩) hst hpl
  exact run_fn F hr hb hd hx I3 rv q2
/-- C.m(k=e, ..): keywords alone -/
theorem pe_smethN {CX : CXT} {k : Nat} {fd : FuncData} {ps ks : List Str} {sp : Sp} {E : XK} {o : Expr} {pos apos : Pos} {ta : TE} {tk : TA} {kws : List Keyword} {gk : List Value → List Value → List Value} {gV : List V → List V → List V} {pl : Sem Bool} (he : PE X o ta) (r : ClX.CRead X.K C mc) (c : SMet X.K C mc m p g) (F : FnOk X.prog X.w X.K X.mg X.base CX k g fd ps sp) (hr : Room k X.A) (hb : KBn X.K fd ps 0 ks gk gV) (hx : Passes CX X E) (hkw : PK X kws tk)
    (hall : (backToKw pos (keywordEach kws X.env)).all (·.1.isSome) = true := by rfl) (hks : (backToKw pos (keywordEach kws X.env)).filterMap (·.1) = ks := by rfl)
    (hpl : ((backTo pos (starEach [] X.env)).any (·.1) || (backToKw pos (keywordEach kws X.env)).any (·.1.isNone)) = false := by rfl)
    (ht : eval (.Call (.Attribute o m apos) [] kws pos) X.env = (do
      let ov ← eval o X.env
      standAt apos.atName
      let (f, first) ← holding [ov] (getMethod ov m pl)
      callWith pos f first (backTo pos (starEach [] X.env)) (backToKw pos (keywordEach kws X.env))) := by rfl) :
    PE X (.Call (.Attribute o m apos) [] kws pos) (fun σ H Q => ta σ H fun x H1 => x = .ref C ∧ tk σ H1 fun zs H2 => zs.length = ks.length ∧ sp (gV [] zs) H2 Q E) := by
  refine ⟨fun pins s σ H Q I h => ?_⟩
  refine PySem.W.methodCall_KW (pl := pl) (thn (he.run pins s σ H _ I h) fun u s1 ⟨x, H1, I1, rx, ex, q⟩ => ?_) ht
  subst ex
  obtain rfl : u = Value.ref C := rx
  refine PySem.W.method_cls I1.kIn r.ga (getsm_ok I1 r c fun s2 I2 => ?_)
  refine PySem.W.callWith_KW0 (h₀ := X.base) I2.ok.mod.kin c.kp hall ?_ hpl
  refine thn (hkw.run pos pins s2 σ H1 _ I2 q) fun ws s3 ⟨zs, H2, I3, rz, l2, q2⟩ => ⟨I3.kIn, ?_⟩
  rw [hks]
  exact run_fnN (us := []) (vs := []) F hr hb hx I3 .nil rz rfl l2 q2
end
section
variable {K : PySem.W.Frag} {c : Fm} {H0 : Hp} {ta tb te : TE} {da db de : DE} {C : Addr}
def dSMeth (bag : Option (Addr × Addr)) (C : Addr) (n : Nat) (dT : DF) (dd : List D) (do_ : DE) (da : DA) : DE := fun ρ P => do_ ρ fun x _ => isRaw C x ∧ da ρ fun xs b => (xs ++ dd).length = n ∧ dT bag (xs ++ dd) (fun z => P z (dirt z b)) fun _ _ => False
theorem sim_smeth {n : Nat} {dT : DF} {dvs : List V} {dd : List D} {E : XK} {t : TA} {dts : DA} (hd : ∀ H, RA K H dd dvs) (ho : SimE K c H0 ta da) (ha : SimA K c H0 t dts) :
    SimE K c H0 (fun σ H Q => ta σ H fun x H1 => x = .ref C ∧ t σ H1 fun vs H2 => spD K n dT (vs ++ dvs) H2 Q E) (dSMeth c.bag C n dT dd da dts) := by
  intro ρ P h O σ H Q rp q
  refine ho ρ _ h O σ H _ rp fun v x b H1 h1 rp1 e1 rx => ?_
  refine ⟨isRaw_of h1.1 rx.here, ?_⟩
  refine ha ρ _ h1.2 O σ H1 _ rp1 fun vs xs b' H2 h3 rp2 e2 rxs => ?_
  exact sp_call (b := b') rp2 (show RBA K c O H2 b' (xs ++ dd) (vs ++ dvs) from RA.app rxs (hd _)) h3.1 h3.2 fun w z H' hp rp' ex rz => q w z _ H' hp rp' ((e1.trans e2).trans ex) rz.dirt
def dSMethN (bag : Option (Addr × Addr)) (C : Addr) (n m : Nat) (dT : DF) (gD : List D → List D) (do_ : DE) (dk : DA) : DE := fun ρ P => do_ ρ fun x _ => isRaw C x ∧ dk ρ fun ys b => ys.length = m ∧ (gD ys).length = n ∧ dT bag (gD ys) (fun z => P z (dirt z b)) fun _ _ => False
theorem sim_smethN {n m : Nat} {dT : DF} {gV : List V → List V → List V} {gD : List D → List D} {E : XK} {tk : TA} {dk : DA} (hg : ∀ {H : Hp} {ys : List D} {zs : List V}, ys.length = m → RA K H ys zs → RA K H (gD ys) (gV [] zs)) (ho : SimE K c H0 ta da) (hk : SimA K c H0 tk dk) :
    SimE K c H0 (fun σ H Q => ta σ H fun x H1 => x = .ref C ∧ tk σ H1 fun zs H2 => zs.length = m ∧ spD K n dT (gV [] zs) H2 Q E) (dSMethN c.bag C n m dT gD da dk) := by
  intro ρ P h O σ H Q rp q
  refine ho ρ _ h O σ H _ rp fun v x b H1 h1 rp1 e1 rx => ?_
  refine ⟨isRaw_of h1.1 rx.here, ?_⟩
  refine hk ρ _ h1.2 O σ H1 _ rp1 fun zs ys b' H2 h3 rp2 e2 ry => ?_
  refine ⟨by rw [ry.len]; exact h3.1, ?_⟩
  exact sp_call (b := b') rp2 (show RBA K c O H2 b' (gD ys) (gV [] zs) from hg h3.1 ry) h3.2.1 h3.2.2 fun w z H' hp rp' ex rz => q w z _ H' hp rp' ((e1.trans e2).trans ex) rz.dirt

/-! ### isinstance of an own class -/
/-- what isinstance asks of the class; ts: built-in types that are not of it -/
structure IsC (K : PySem.W.Frag) (C : Addr) (ts : List String) : Prop where
  cl : Cls K C
  ha : PySem.W.findIn K (.ref C) "__class__" = some (some (.builtin "object.__class__"))
  hn : PySem.W.specialIn K (.builtin "object.__class__") "__get__" = some (some (.builtin "getset_descriptor.__get__"))
  htk : PySem.W.takesIn K (.builtin "object.__class__") = some true
  hm : PySem.W.mroIn K C (.type "object") = some true
  no : ∀ n ∈ ts, PySem.W.kitOne K (.type n) (.ref C) = some false
def isiC (C : Addr) (ts : List String) : D → Option Bool
  | .ins C' _ => if C' = C then some true else none
  | d => (tyName d).bind fun n => if n ∈ ts then some false else none
def dIsiC (C : Addr) (ts : List String) : DC := fun xs P => match xs with | [d, k] => isRaw C k ∧ optP (isiC C ts d) fun b => P (.bl b) | _ => False
theorem kit_self {K : PySem.W.Frag} {C : Addr} : PySem.W.kitOne K (.ref C) (.ref C) = some true := by
  unfold PySem.W.kitOne
  rw [if_pos (by simp)]
theorem sc_isiC {ts : List String} (T : IsC K C ts) : SimC K c H0 (rIsi K) (dIsiC C ts) := by
  intro xs P h O H Q vs b σ ρ rp rx q
  unfold dIsiC at h
  split at h
  · rename_i d k
    obtain ⟨hk, h⟩ := h
    obtain ⟨b', e, h⟩ := optP_some h
    obtain ⟨v, r, rfl, h1, v2, r2, rfl, h2, h3⟩ := rx.here
    rw [show r2 = [] from h3, isRaw_of hk h2]
    have gen : ∀ d : D, (tyName d).bind (fun n => if n ∈ ts then some false else none) = some b' → R K H d v → rIsi K [v, .ref C] H Q := fun d e h1 => by
      obtain ⟨n, e1, e2⟩ := Option.bind_eq_some_iff.mp e
      split at e2
      · rename_i hn
        cases e2
        exact ⟨v, .ref C, _, _, false, rfl, .own C, ty_of e1 h1, T.no n hn, q _ _ H h (Ex.refl H) rp.inv rfl⟩
      · cases e2
    cases d with
    | ins C' fs =>
      have e : (if C' = C then some true else none) = some b' := e
      by_cases hc : C' = C
      · subst hc
        rw [if_pos rfl] at e
        cases e
        obtain ⟨a, dx, gs, rfl, g1, g2⟩ := h1
        exact ⟨.ref a, .ref C', _, _, true, rfl, .own C', .base (.ins g1 T.cl T.ha T.hn T.htk T.hm), kit_self, q _ _ H h (Ex.refl H) rp.inv rfl⟩
      · rw [if_neg hc] at e
        cases e
    | non => exact gen (.non) e h1
    | bl z => exact gen (.bl z) e h1
    | int z => exact gen (.int z) e h1
    | str z => exact gen (.str z) e h1
    | lst z => exact gen (.lst z) e h1
    | tup z => exact gen (.tup z) e h1
    | raw z => exact gen (.raw z) e h1
    | lam z => exact gen (.lam z) e h1
    | dk z => exact gen (.dk z) e h1
    | dt z => exact gen (.dt z) e h1
  · exact h.elim
end
end QD

/-! QD20: an own class's namespace; how the arguments of a call are put in the parameters' order. -/
namespace QD
open PySem L2
/-- the class at C over object, its namespace at N -/
structure NsC (K : PySem.W.Frag) (C N : Addr) : Prop where
  ex : ∃ nm q bs hdct sn sub ab col dd k0 k1 k2 k3 k5 newId, K.lookup C = some (excClassObj nm q C N bs [.type "object"] hdct sn sub ab col dd k0 k1 k2 k3 k5 newId)
  ok : PySem.W.nsOkIn K N = true
theorem nsOk_of {K : PySem.W.Frag} {N : Addr} {cls : Value} {od : Option Addr} {es : Array DictEntry} {ep : Nat} {sl : Array (Option Value)} (l : K.lookup N = some ⟨cls, od, .dict es ep, sl⟩) (h : es.all (fun e => match e.key with | .str _ _ => true | _ => false) = true) : PySem.W.nsOkIn K N = true := by
  unfold PySem.W.nsOkIn
  rw [l]
  exact h
/-- .. with a special method of its own -/
structure OwnC (K : PySem.W.Frag) (C N f : Addr) (m : Str) : Prop where
  ns : NsC K C N
  at_ : PySem.W.nsIn K N m = some (some (.ref f))
  tf : PySem.W.typeIn K (.ref f) = some (.type "function")
theorem q_neOwn {X : Cx} {CX : CXT} {k : Nat} {C f N : Addr} {fd : FuncData} {ps : List Str} {sp : Sp} {E : XK}
    (F : FnOk X.prog X.w X.K X.mg X.base CX k f fd ps sp) (hr : Room (k + 1) X.A) (hb : Binds X.K fd ps []) (hx : Passes CX X E) (o : OwnC X.K C N f "__eq__") (ne : PySem.W.nsIn X.K N "__ne__" = some none) : OpR X (compareOp .NotEq) (rNeOwn C sp E) := by
  obtain ⟨nm, q, bs, hdct, sn, sub, ab, col, dd, k0, k1, k2, k3, k5, newId, lk⟩ := o.ns.ex
  exact op_neOwn F hr hb hx lk o.ns.ok o.at_ ne o.tf PySem.F.slot_object_eq.lookup
theorem q_reprOwn {X : Cx} {CX : CXT} {k : Nat} {C f N : Addr} {fd : FuncData} {ps : List Str} {sp : Sp} {E : XK}
    (F : FnOk X.prog X.w X.K X.mg X.base CX k f fd ps sp) (hr : Room (k + 1) X.A) (hb : Binds X.K fd ps []) (hx : Passes CX X E) (o : OwnC X.K C N f "__repr__") : CallR X (.builtin "repr") (rReprOwn C sp E) := by
  obtain ⟨nm, q, bs, hdct, sn, sub, ab, col, dd, k0, k1, k2, k3, k5, newId, lk⟩ := o.ns.ex
  exact call_reprOwn F hr hb hx lk o.ns.ok o.at_ o.tf PySem.F.slot_object_repr.lookup
/-- what == of an own class asks -/
structure EqC (K : PySem.W.Frag) (C f : Addr) : Prop where
  at_ : PySem.W.findIn K (.ref C) "__eq__" = some (some (.ref f))
  fn : PySem.W.isFn K (.ref f) = true
  nf : PySem.W.notFirst K C (.type "str") = true
theorem q_eqOwn {X : Cx} {CX : CXT} {k : Nat} {C f : Addr} {fd : FuncData} {ps : List Str} {sp : Sp} {E : XK} (F : FnOk X.prog X.w X.K X.mg X.base CX k f fd ps sp) (hr : Room k X.A) (o : EqC X.K C f) (hb : Binds X.K fd ps []) (hx : Passes CX X E) :
    OpR X (compareOp .Eq) (rEqOwn C sp E) := op_eqOwn F hr o.at_ o.fn hb hx (Nat.lt_of_le_of_lt (Nat.le_add_right _ _) (hu64 hr)) o.nf

/-! ### the arguments in the parameters' order: (0, i) the i-th written one, (1, i) the i-th default, (2, i) the i-th keyword default that lacks, (3, i) the i-th keyword's -/
def pick {α : Type} (a b c d : List α) (p : Nat × Nat) : Option α := (match p.1 with | 0 => a | 1 => b | 2 => c | _ => d)[p.2]?
def sel {α : Type} (src : List (Nat × Nat)) (a b c d : List α) : List α := src.filterMap (pick a b c d)
theorem vals_get : ∀ {vs : List V} {us : List Value} (i : Nat), Vals vs us → (∃ v u, vs[i]? = some v ∧ us[i]? = some u ∧ RelV v u) ∨ (vs[i]? = none ∧ us[i]? = none)
  | _, _, i, .nil => .inr ⟨by simp, by simp⟩
  | _, _, 0, .cons r _ => .inl ⟨_, _, rfl, rfl, r⟩
  | _, _, i + 1, .cons _ t => by simpa using vals_get i t
theorem vals_sel {a b c d : List V} {a' b' c' d' : List Value} (ra : Vals a a') (rb : Vals b b') (rc : Vals c c') (rd : Vals d d') : ∀ src : List (Nat × Nat), Vals (sel src a b c d) (sel src a' b' c' d')
  | [] => .nil
  | p :: src => by
    have ih := vals_sel ra rb rc rd src
    have hp : (∃ v u, pick a b c d p = some v ∧ pick a' b' c' d' p = some u ∧ RelV v u) ∨ (pick a b c d p = none ∧ pick a' b' c' d' p = none) := by
      obtain ⟨k, i⟩ := p
      match k with
      | 0 => exact vals_get i ra
      | 1 => exact vals_get i rb
      | 2 => exact vals_get i rc
      | k + 3 => exact vals_get i rd
    unfold sel at ih ⊢
    rcases hp with ⟨v, u, e1, e2, r⟩ | ⟨e1, e2⟩
    · rw [List.filterMap_cons, List.filterMap_cons, e1, e2]
      exact .cons r ih
    · rw [List.filterMap_cons, List.filterMap_cons, e1, e2]
      exact ih
theorem ra_get {K : PySem.W.Frag} {H : Hp} : ∀ {ds : List D} {vs : List V} (i : Nat), RA K H ds vs → (∃ d v, ds[i]? = some d ∧ vs[i]? = some v ∧ R K H d v) ∨ (ds[i]? = none ∧ vs[i]? = none)
  | [], _, i, h => by
    have : _ = [] := h
    subst this
    exact .inr ⟨by simp, by simp⟩
  | d :: ds, _, 0, h => by
    obtain ⟨v, r, rfl, h1, h2⟩ := h
    exact .inl ⟨d, v, rfl, rfl, h1⟩
  | d :: ds, _, i + 1, h => by
    obtain ⟨v, r, rfl, h1, h2⟩ := h
    simpa using ra_get i h2
theorem ra_sel {K : PySem.W.Frag} {H : Hp} {a b c d : List D} {a' b' c' d' : List V} (ra : RA K H a a') (rb : RA K H b b') (rc : RA K H c c') (rd : RA K H d d') : ∀ src : List (Nat × Nat), RA K H (sel src a b c d) (sel src a' b' c' d')
  | [] => rfl
  | p :: src => by
    have ih := ra_sel ra rb rc rd src
    have hp : (∃ v u, pick a b c d p = some v ∧ pick a' b' c' d' p = some u ∧ R K H v u) ∨ (pick a b c d p = none ∧ pick a' b' c' d' p = none) := by
      obtain ⟨k, i⟩ := p
      match k with
      | 0 => exact ra_get i ra
      | 1 => exact ra_get i rb
      | 2 => exact ra_get i rc
      | k + 3 => exact ra_get i rd
    unfold sel at ih ⊢
    rcases hp with ⟨v, u, e1, e2, r⟩ | ⟨e1, e2⟩
    · rw [List.filterMap_cons, List.filterMap_cons, e1, e2]
      exact ⟨_, _, rfl, r, ih⟩
    · rw [List.filterMap_cons, List.filterMap_cons, e1, e2]
      exact ih
theorem sel_map {α β : Type} (f : α → β) (src : List (Nat × Nat)) (a b c d : List α) : (sel src a b c d).map f = sel src (a.map f) (b.map f) (c.map f) (d.map f) := by
  unfold sel
  rw [List.map_filterMap]
  congr 1
  funext p
  obtain ⟨k, i⟩ := p
  match k with
  | 0 => simp [pick]
  | 1 => simp [pick]
  | 2 => simp [pick]
  | k + 3 => simp [pick]
/-- FunD.binds by sel: Group(a, b) where some are left out -/
structure Dfl (K : PySem.W.Frag) (dd : List D) (dvs : List V) : Prop where
  r : ∀ H, RA K H dd dvs
end QD

/-! QD21: Go for objects, f-strings, written dicts, names. -/
namespace QD
open PySem L2
theorem kit_no {K : PySem.W.Frag} {C : Addr} {n : String} (h1 : PySem.W.isClsIn K C = true) (h2 : PySem.W.typeIn K (.ref C) = some (.type "type")) (h3 : PySem.W.subIn K (.type n) (.ref C) = some false) : PySem.W.kitOne K (.type n) (.ref C) = some false := by
  have h1 : (PySem.W.clsIn K C).isSome = true := h1
  unfold PySem.W.kitOne PySem.W.kitCls
  rw [if_neg (by simp)]
  show (if ((PySem.W.clsIn K C).isSome && PySem.W.typeIn K (Value.ref C) == some (Value.type "type")) = true then _ else _) = _
  rw [if_pos (by rw [h1, h2]; simp)]
  exact h3
theorem go_done {p : Prop} : Go p = p := (rfl)
theorem go_go {p : Prop} : Go (Go p) = Go p := (rfl)
section
variable {a b e f : DE} {da dk : DA} {A : DS} {Dd : DEnds} {ρ : DEnv} {P : D → Bool → Prop} {Pd : D → Prop} {x y d : D} {xs ys ds : List D} {i n m k : Nat} {C C' : Addr} {fs : List (Str × D)} {m' g : Str} {bag : Option (Addr × Addr)} {dT : DF} {dI : DI0} {dd : List D} {is : List Nat} {Q : DEnv → Prop} {tab : List (Str × D)} {neg : Bool} {al : Addr} {ts : List String}
theorem go_fld : Go (dFld C g a ρ P) = Go (a ρ fun x b => asIns C x fun fs => optP (fs.lookup g) fun z => P z (dirt z b)) := (rfl)
theorem go_asIns {PF : List (Str × D) → Prop} : Go (asIns C (.ins C fs) PF) = Go (PF fs) := by
  unfold Go asIns
  simp
theorem go_ownFld : Go (dOwnFld i C g ρ P) = Go (objE C ρ[i]? fun fs => optP (fs.lookup g) fun z => P z false) := (rfl)
theorem go_objE {PF : List (Str × D) → Prop} : Go (objE C (some (some (Ent.own (.ins C fs)))) PF) = Go (PF fs) := by
  unfold Go objE
  simp
theorem go_setFld : Go (dSetFld i C g a Dd ρ) = Go (a ρ fun d b => b = false ∧ objE C ρ[i]? fun fs => fs.length < 1000 ∧ Dd.nx (ρ.set i (some (Ent.own (.ins C (putD g d fs)))))) := (rfl)
theorem go_fmt : Go (dFmt a ρ P) = Go (a ρ fun x _ => fmtD x fun y => P (.str y) false) := (rfl)
theorem go_fmtS {s : Str} {PS : Str → Prop} : Go (fmtD (.str s) PS) = Go (s.length ≤ sizeLine ∧ PS s) := (rfl)
theorem go_fmtI {j : Int} {PS : Str → Prop} : Go (fmtD (.int j) PS) = Go (j.natAbs.log2 < 1920 ∧ PS (toString j)) := (rfl)
theorem go_joined {de : List DE} : Go (dJoined de ρ P) = Go (dJs de Str.empty ρ fun out => P (.str out) false) := (rfl)
theorem go_jsN {s : Str} {PS : Str → Prop} : Go (dJs [] s ρ PS) = Go (PS s) := (rfl)
theorem go_jsC {de : List DE} {s : Str} {PS : Str → Prop} : Go (dJs (a :: de) s ρ PS) = Go (a ρ fun x _ => asStr x fun y => (s ++ y).length ≤ sizeLine ∧ dJs de (s ++ y) ρ PS) := (rfl)
theorem go_inK : Go (dInK neg al tab x (.raw (.ref al)) Pd) = Go (optP (keyD x tab) fun _ => Pd (.bl (!neg))) := by
  unfold Go dInK isRaw
  simp
theorem go_ixK : Go (dIxK al tab (.raw (.ref al)) y Pd) = Go (optP (keyD y tab) Pd) := by
  unfold Go dIxK isRaw
  simp
theorem go_gtup : Go (dGTup is (.tup ds) ρ Q) = Go (ds.length = is.length ∧ Q (setAll ρ is ds)) := (rfl)
theorem go_glst : Go (dGLst is (.lst ds) ρ Q) = Go (ds.length = is.length ∧ Q (setAll ρ is ds)) := (rfl)
theorem setAll_nil : setAll ρ [] [] = ρ := (rfl)
theorem setAll_cons : setAll ρ (i :: is) (d :: ds) = setAll (ρ.set i (some (Ent.val d))) is ds := (rfl)
theorem go_make : Go (dMake bag C n dI dd da ρ P) = Go (da ρ fun xs b => (xs ++ dd).length = n ∧ dI bag (xs ++ dd) (fun fs => P (.ins C fs) b) fun _ _ => False) := (rfl)
theorem go_makeK {gD : List D → List D → List D} : Go (dMakeK bag C n k m dI gD da dk ρ P) = Go (da ρ fun xs b => dk ρ fun ys b' => (xs.length = k ∧ ys.length = m) ∧ (gD xs ys).length = n ∧ dI bag (gD xs ys) (fun fs => P (.ins C fs) (b || b')) fun _ _ => False) := (rfl)
theorem go_meth : Go (dMeth bag C g n dT dd a da ρ P) = Go (a ρ fun x b0 => asIns C x fun fs => fs.lookup g = none ∧ da ρ fun xs b => (x :: xs ++ dd).length = n ∧ dT bag (x :: xs ++ dd) (fun z => P z (dirt z (b0 || b))) fun _ _ => False) := (rfl)
theorem go_prop : Go (dProp bag C dT a ρ P) = Go (a ρ fun x b => asIns C x fun _ => dT bag [x] (fun z => P z (dirt z b)) fun _ _ => False) := (rfl)
theorem go_smeth : Go (dSMeth bag C n dT dd a da ρ P) = Go (a ρ fun x _ => isRaw C x ∧ da ρ fun xs b => (xs ++ dd).length = n ∧ dT bag (xs ++ dd) (fun z => P z (dirt z b)) fun _ _ => False) := (rfl)
theorem go_smethN {gD : List D → List D} : Go (dSMethN bag C n m dT gD a dk ρ P) = Go (a ρ fun x _ => isRaw C x ∧ dk ρ fun ys b => ys.length = m ∧ (gD ys).length = n ∧ dT bag (gD ys) (fun z => P z (dirt z b)) fun _ _ => False) := (rfl)
theorem isRaw_self : isRaw C (.raw (.ref C)) = True := by
  unfold isRaw
  simp
theorem go_isiC : Go (dIsiC C ts [x, .raw (.ref C)] Pd) = Go (optP (isiC C ts x) fun b => Pd (.bl b)) := by
  unfold Go dIsiC isRaw
  simp
theorem isiC_ins : isiC C ts (.ins C fs) = some true := by
  unfold isiC
  simp
theorem isiC_str {s : Str} : isiC C ts (.str s) = if "str" ∈ ts then some false else none := (rfl)
theorem isiC_non : isiC C ts .non = if "NoneType" ∈ ts then some false else none := (rfl)
theorem go_eqOwn : Go (dEqOwn bag C dT (.ins C fs) y Pd) = Go (strOrIns C y = true ∧ dT bag [.ins C fs, y] Pd fun _ _ => False) := by
  unfold Go dEqOwn asIns
  simp
theorem go_neOwn {gs : List (Str × D)} : Go (dNeOwn bag C dT (.ins C fs) (.ins C gs) Pd) = Go (dT bag [.ins C fs, .ins C gs] (fun z => asBl z fun k => Pd (.bl (!k))) fun _ _ => False) := by
  unfold Go dNeOwn asIns
  simp
theorem go_reprOwn : Go (dReprOwn bag C dT [.ins C fs] Pd) = Go (dT bag [.ins C fs] (fun z => asStr z fun t => Pd (.str t)) fun _ _ => False) := by
  unfold Go dReprOwn asIns
  simp
theorem strOrIns_str {s : Str} : strOrIns C (.str s) = true := (rfl)
theorem strOrIns_ins : strOrIns C (.ins C fs) = true := by
  unfold strOrIns
  simp
end
end QD

/-! QD22: {x!r} in an f-string: any flat value, a list or a tuple of flat values; some bounded text, whatever is under way. -/
namespace QD
open PySem L2 PyProof.Rows PySem.Spec
/-- list.__repr__'s head, whatever is under way -/
theorem lr_head {M : Model} {A : Around} {E : Value → Shared → Prop} {s : Shared} {Q : Fin → Shared → Prop} {a : Addr} {o : Obj} {x : Value} {l : List Value} {n : Nat} {b : Nat} (hget : s.heap.get? a = some o) (hd : o.data = .seq (x :: l).toArray n)
    (h : wpAny M A (do again (.builtin "list.__repr__.loop" ⟨[.ref a, rawInt 0, ← newList [], rawInt b], []⟩)) Q E s) (h2 : ∀ u tk, Q (.done (.ret (.str "[...]" u))) { s with toks := tk }) : wpAny M A (Builtin.listReprAt b ⟨[.ref a], []⟩) Q E s := by
  intro Γ p hΓ
  have h1 := h Γ p hΓ
  have h3 : wpAny M A (do rule "list.__repr__.in-itself"; retStr "[...]") Q E s := wpAny_bind (wpAny_rule (wpAny_bind (wpAny_mkStr (wpAny_pure (h2 _ _)) (by decide +kernel))))
  have h4 := h3 Γ p hΓ
  unfold Builtin.listReprAt
  simp [slotArgs, Builtin.List.listItems, seqItems?, Sem.wp_load_of (h := hget), hd, stack]
  show Sem.wp M Γ (if (Γ.below.any _) = true then _ else _) _ _ p s
  split
  · exact h4
  · exact h1
theorem len_dots : ("[...]" : Str).length = 5 := by decide +kernel
theorem list_shown {prog : Program} {w : World} {A : Around} {E : Value → Shared → Prop} {s : Shared} {a : Addr} {o : Obj} {items : Array Value} {n : Nat} {ts : List Str} {Q : Value → Shared → Prop} (ha : s.heap.get? a = some o) (hc : o.cls = .type "list") (hd : o.data = .seq items n) (hT : ReprAll prog w items.toList ts)
    (hsz : (listText ts).length ≤ sizeLine) (h : ∀ (m : Str) (h' : Heap) (u tk : Tok), m.length ≤ (listText ts).length + 5 → (∀ b o, s.heap.get? b = some o → h'.get? b = some o) → Q (.str m u) { s with heap := h', toks := tk }) : wpAny (model prog w) A (call (.builtin "list.__repr__") [.ref a]) Q E s := by
  obtain ⟨l⟩ := items
  cases l with
  | nil =>
    cases hT
    exact call_list_repr_empty ⟨o, ha, hc⟩ ha hd (h "[]" s.heap _ _ (by decide +kernel) fun _ _ e => e)
  | cons x l =>
    refine wpAny_call (codeAny_call_builtin F.slot_list_repr.plain F.entry_list_repr (F.slot_list_repr.check _ _ _ _ _ _ _ _ ⟨o, ha, hc⟩ (F.args_list_repr_1 _) ?_))
    show wpAny _ _ (Builtin.listReprAt 0 ⟨[.ref a], []⟩) _ _ s
    refine lr_head ha hd ?_ fun u tk => ?_
    · refine wpAny_bind (m := newList []) (wpAny_newObj_type ?_)
      refine wpAny_pure ⟨F.quiet_list_repr_loop _, ?_⟩
      refine codeAny_list_repr_start (P := s.heap.objs.size) (b := 0) (ts := ts) (items := (x :: l).toArray) (Nat.ne_of_lt (Heap.lt_size ha)) hT.length_eq (fun i y e => ?_) (Heap.get?_push_of_some _ ha) hd (Heap.get?_push_size _ rfl) (fun h' u tk hk => ?_) (by omega)
      · have key : ∀ {l : List Value} {ts : List Str}, ReprAll prog w l ts → ∀ (i : Nat) (y : Value), l[i]? = some y → ∃ t, ts[i]? = some t ∧ ReprIs prog w y t := by
          intro l ts r
          induction r with
          | nil => intro i y e; simp at e
          | cons hx hl ih =>
            intro i y e
            cases i with
            | zero => simp at e; subst e; exact ⟨_, rfl, hx⟩
            | succ i =>
              obtain ⟨t, e1, e2⟩ := ih i y (by simpa using e)
              exact ⟨t, by simpa using e1, e2⟩
        exact key hT i y (by simpa using e)
      · exact h _ h' u tk (Nat.le_add_right _ _) fun b o e => hk b o (Nat.ne_of_lt (Heap.lt_size e)) (Heap.get?_push_of_some _ e)
    · exact h "[...]" s.heap u tk (by rw [len_dots]; omega) fun _ _ e => e
theorem len_textFrom : ∀ (ts : List Str) (k : Nat) (acc : Str), (textFrom k acc ts).length ≤ acc.length + piled ts
  | [], _, acc => by show acc.length ≤ _; omega
  | t :: ts, k, acc => by
    have h := len_textFrom ts (k + 1) (acc ++ (if k > 0 then ", " else "" : String) ++ t)
    have e : ((if k > 0 then ", " else "" : String) : Str).length ≤ 2 := by split <;> decide +kernel
    rw [strLen_append, strLen_append] at h
    rw [piled_cons]
    show (textFrom (k + 1) (acc ++ (if k > 0 then ", " else "" : String) ++ t) ts).length ≤ _
    omega
theorem len_listText (ts : List Str) : (listText ts).length ≤ piled ts + 2 := by
  have h := len_textFrom ts 0 "["
  have e1 : ("[" : Str).length = 1 := by decide +kernel
  have e2 : ("]" : Str).length = 1 := by decide +kernel
  unfold listText
  rw [strLen_append, e2]
  omega

/-! ### flat values -/
def okFlat : V → Bool
  | .str x => x.cps.toList.all fun c => decide (c < 16 ^ 8)
  | .int i => decide (i.natAbs.log2 < 1920)
  | .bl _ => true
  | .non => true
  | _ => false
def costFlat : V → Nat
  | .str x => 10 * x.length + 2
  | _ => 2000
def costs (xs : List V) : Nat := (xs.map fun x => costFlat x + 2).sum
theorem costs_cons (x : V) (xs : List V) : costs (x :: xs) = costFlat x + 2 + costs xs := by unfold costs; rw [List.map_cons, List.sum_cons]
theorem flat_is {prog : Program} {w : World} {x : V} {u : Value} (r : RelV x u) (ok : okFlat x = true) (hz : costFlat x ≤ sizeLine) : ∃ t : Str, t.length ≤ costFlat x ∧ ReprIs prog w u t := by
  cases x with
  | str x =>
    obtain ⟨tk, rfl⟩ := r
    have h1 := StrLaws.reprText_len x fun c hc => of_decide_eq_true (List.all_eq_true.mp (show (x.cps.toList.all fun c => decide (c < 16 ^ 8)) = true from ok) c hc)
    have hz : 10 * x.length + 2 ≤ sizeLine := hz
    exact ⟨_, h1, ReprIs.str x tk (by omega)⟩
  | int i =>
    obtain ⟨tk, rfl⟩ := r
    have ok : i.natAbs.log2 < 1920 := of_decide_eq_true ok
    refine ⟨_, ?_, ReprIs.int tk ok⟩
    have e := int_text_length_le (k := 1920) (by decide) ok
    rw [PySem.ofString_length]
    show _ ≤ 2000
    omega
  | bl b =>
    cases r
    refine ⟨_, ?_, ReprIs.bool b⟩
    show _ ≤ 2000
    cases b <;> decide +kernel
  | non =>
    cases r
    exact ⟨_, by show _ ≤ 2000; decide +kernel, ReprIs.none⟩
  | _ => cases ok
theorem flats_are {prog : Program} {w : World} : ∀ {xs : List V} {us : List Value}, Vals xs us → xs.all okFlat = true → costs xs ≤ sizeLine → ∃ ts : List Str, piled ts ≤ costs xs ∧ ReprAll prog w us ts
  | [], _, r, _, _ => by
    cases r
    exact ⟨[], Nat.le_refl _, .nil⟩
  | x :: xs, _, r, ok, hz => by
    cases r with
    | cons r1 r2 =>
      rw [costs_cons] at hz
      rw [List.all_cons, Bool.and_eq_true] at ok
      obtain ⟨t, h1, h2⟩ := flat_is (prog := prog) (w := w) r1 ok.1 (by omega)
      obtain ⟨ts, h3, h4⟩ := flats_are (prog := prog) (w := w) r2 ok.2 (by omega)
      exact ⟨t :: ts, by rw [piled_cons, costs_cons]; omega, .cons h2 h4⟩
/-- {x!r} -/
def tFmtA (K : PySem.W.Frag) (te : TE) : TE := fun σ H Q => te σ H fun x H1 => (okFlat x = true ∧ costFlat x ≤ sizeLine ∧ ∀ m : Str, m.length ≤ costFlat x → Q (.str m) H1) ∨
  ∃ (a : Addr) (xs : List V), x = .ref a ∧ (SqL K H1 a xs ∨ SqT K H1 a xs) ∧ xs.all okFlat = true ∧ costs xs + 20 ≤ sizeLine ∧ ∀ m : Str, m.length ≤ costs xs + 20 → Q (.str m) H1
section
variable {X : Cx}
theorem pe_fmtA {e : Expr} {te : TE} {pos : Pos} {k : Nat} (hr : Room k X.A) (he : PE X e te) : PE X (.FormattedValue e 114 none pos) (tFmtA X.K te) := by
  refine ⟨fun pins s σ H Q I h => ?_⟩
  refine wpAny_FormattedValue_repr (thn (he.run pins s σ H _ I h) fun v s1 hv => ?_)
  obtain ⟨x, H1, I1, r1, q⟩ := hv
  have hu := hr.units
  rcases q with ⟨ok, hz, q⟩ | ⟨a, xs, rfl, sq, ok, hz, q⟩
  · obtain ⟨t, ht, rp⟩ := flat_is (prog := X.prog) (w := X.w) r1 ok hz
    have fin : ∀ tk, wpAny (model X.prog X.w) X.A (formatField (.str t tk) Str.empty) (EP X pins σ Q) X.xe { s1 with toks := s1.toks + 1 } := fun tk =>
      wpAny_formatField_str ⟨.str t, H1, I1.tok _, ⟨_, rfl⟩, q t ht⟩ ⟨.str t, H1, I1.tok _, ⟨_, rfl⟩, q t ht⟩ (by omega)
    clear rp
    cases x with
    | str x =>
      obtain ⟨tk, rfl⟩ := r1
      have h1 := StrLaws.reprText_len x fun c hc => of_decide_eq_true (List.all_eq_true.mp (show (x.cps.toList.all fun c => decide (c < 16 ^ 8)) = true from ok) c hc)
      have hz : 10 * x.length + 2 ≤ sizeLine := hz
      exact pyReprObj_str (wpAny_formatField_str ⟨.str (reprText x), H1, I1.tok _, ⟨_, rfl⟩, q _ h1⟩ ⟨.str (reprText x), H1, I1.tok _, ⟨_, rfl⟩, q _ h1⟩ (by omega)) (by omega)
    | int i =>
      obtain ⟨tk, rfl⟩ := r1
      have ok : i.natAbs.log2 < 1920 := of_decide_eq_true ok
      have e := int_text_length_le (k := 1920) (by decide) ok
      have hc : (Str.ofString (toString i)).length ≤ costFlat (.int i) := by
        rw [PySem.ofString_length]
        show _ ≤ 2000
        omega
      exact pyReprObj_int ok (wpAny_formatField_str ⟨.str (toString i), H1, I1.tok _, ⟨_, rfl⟩, q _ hc⟩ ⟨.str (toString i), H1, I1.tok _, ⟨_, rfl⟩, q _ hc⟩ (int_text_fits ok))
    | bl b =>
      cases r1
      have hc : ((if b then "True" else "False" : Str)).length ≤ costFlat (.bl b) := by
        show _ ≤ 2000
        cases b <;> decide +kernel
      exact pyReprObj_bool (wpAny_formatField_str ⟨.str (if b then "True" else "False" : Str), H1, I1.tok _, ⟨_, rfl⟩, q _ hc⟩ ⟨.str (if b then "True" else "False" : Str), H1, I1.tok _, ⟨_, rfl⟩, q _ hc⟩ (Nat.le_trans hc hz))
    | non =>
      cases r1
      have hc : ("None" : Str).length ≤ costFlat .non := by
        show _ ≤ 2000
        decide +kernel
      exact pyReprObj_none (wpAny_formatField_str ⟨.str "None", H1, I1.tok _, ⟨_, rfl⟩, q _ hc⟩ ⟨.str "None", H1, I1.tok _, ⟨_, rfl⟩, q _ hc⟩ (by omega))
    | _ => cases ok
  · cases r1
    have last : ∀ (m : Str) (h' : Heap) (u tk : Tok), m.length ≤ costs xs + 20 → (∀ b o, s1.heap.get? b = some o → h'.get? b = some o) → wpAny (model X.prog X.w) X.A (formatField (.str m u) Str.empty) (EP X pins σ Q) X.xe { s1 with heap := h', toks := tk } := fun m h' u tk hm k =>
      wpAny_formatField_str ⟨.str m, H1, I1.kept k, ⟨_, rfl⟩, q m hm⟩ ⟨.str m, H1, I1.kept k, ⟨_, rfl⟩, q m hm⟩ (by omega)
    rcases sq with sq | sq
    · obtain ⟨its, rv, ⟨o, n, ho, hcl, _, hd⟩, _⟩ := I1.list sq
      obtain ⟨ts, h1, h2⟩ := flats_are (prog := X.prog) (w := X.w) rv ok (by omega)
      have h3 := len_listText ts
      exact wpAny_pyReprObj_slot (by omega) ⟨o, ho, hcl⟩ F.slot_list_repr.toG (list_shown ho hcl hd h2 (by omega) fun m h' u tk hm k => ⟨m, u, rfl, last m h' u tk (by omega) k⟩)
    · obtain ⟨its, rv, ⟨o, ho, hcl, n, hd⟩, _⟩ := I1.tuple sq
      obtain ⟨ts, h1, h2⟩ := flats_are (prog := X.prog) (w := X.w) rv ok (by omega)
      have h3 := fmt_text ts
      exact wpAny_pyReprObj_slot (by omega) ⟨o, ho, hcl⟩ F.slot_tuple_repr (fmt_tuple_repr ho hcl hd h2 (by omega) fun m u tk hm => ⟨m, u, rfl, last m s1.heap u tk (by omega) fun _ _ e => e⟩)
end
end QD

/-! QD23: the __init__ of an own error over an own class over ValueError: super().__init__(text), then fields. -/
namespace QD
open PySem L2 PyProof.Rows PySem.Spec
/-- what is asked of such a def: its record at f, its cell of the class at cc, its code at cda -/
structure ErrI (P : Program) (K : PySem.W.Frag) (C : Addr) (qual : Str) (params : Arguments) (st0 : Stmt) (rest : List Stmt) (scope : Scope) (f : Addr) (fd : FuncData) (cc cda : Addr) : Prop where
  fn : ∃ (oc : Value) (od : Option Addr) (dV kV doc pm : Value) (an : Option Addr) (ct : Value) (osl : Array (Option Value)), fd = PySem.W.ksFn "__init__" qual params (st0 :: rest) scope dV kV doc pm an (.ref cda) ct cc ∧ K.lookup f = some ⟨oc, od, .func fd, osl⟩
  cd : PySem.W.codeIn K (.ref cda) qual = true
  code : ∃ (ccl : Value) (cdd : Option Addr) (vs : Array Value) (ccs : Array (Option Value)) (file : Str) (tf : Tok), K.lookup cda = some ⟨ccl, cdd, .fields vs, ccs⟩ ∧ vs[2]? = some (.str file tf) ∧ ((P.main.file : Str) == file) = true
  cell : ∃ (cl : Value) (cld : Option Addr) (csl : Array (Option Value)), K.lookup cc = some ⟨cl, cld, .cell (some (.ref C)), csl⟩
  sup : PySem.W.nsIn K mainGlobals "super" = some none
  top : (P.main.scope.names.lookup ("super" : Str)).isSome = false
  own : PySem.W.nsIn K cStatics "thirdparty.any" = some none
  mro : PySem.W.mroIn K C (.ref C) = some true
  cls : ∃ cd, PySem.W.clsIn K C = some cd
  ini : PySem.W.ks_superIn K C C "__init__" = some (some (.builtin "ValueError.__init__"))
  ve : PySem.W.subIn K (.ref C) (.type "ValueError") = some true
/-- its names: parameters, and the class as a captured one -/
structure ErrS (ps : List Str) (params : Arguments) (sc : Scope) : Prop where
  kind : sc.kind = .function
  co : sc.isCoroutine = false
  gen : sc.isGenerator = false
  nd : ps.Nodup
  par : ∀ x ∈ ps, sc.names.lookup x = some .local
  nocell : ∀ y ∈ sc.names, y.2 ≠ .cell
  free : ∀ y ∈ sc.names, y.2 = .free → y.1 = "__class__"
  cls : sc.names.lookup ("__class__" : Str) = some .free
  sup : sc.names.lookup ("super" : Str) = some .globalImplicit
  head : ∃ ar, (params.posonlyargs ++ params.args).head? = some ar ∧ ps[0]? = some ar.arg
abbrev envE (qual : Str) (scope : Scope) (L f : Addr) (cda cc : Addr) : Env := PySem.W.ksEnv qual scope L f (.ref cda) cc
/-- the context of its body -/
def cxE (P : Program) (w : World) (K : PySem.W.Frag) (mg : Str → Option Value) (base : Heap) (N : List Str) (qual : Str) (scope : Scope) (f cda cc : Addr) (A : Around) (outer : List Env) (s : Shared) (H : Hp) : Cx where
  prog := P
  w := w
  K := K
  mg := mg
  base := base
  A := A.deeper (envE qual scope s.heap.objs.size f cda cc)
  N := N
  s_0 := s
  H_0 := H
  env := envE qual scope s.heap.objs.size f cda cc
  outer := outer
  stack := envE qual scope s.heap.objs.size f cda cc :: outer
  ex := []
  fn := fun _ => false
  calm := true
  pn := []
  xe := fun _ _ => False
theorem rev_lookup {l : List (Str × Value)} (nd : (l.map (·.1)).Nodup) {x : Str} {u : Value} (h : (x, u) ∈ l) : l.lookup x = some u := by
  induction l with
  | nil => simp at h
  | cons p l ih =>
    obtain ⟨y, v⟩ := p
    rw [List.lookup_cons]
    rw [List.map_cons, List.nodup_cons] at nd
    rcases List.mem_cons.mp h with e | h
    · cases e
      simp
    · have hne : x ≠ y := fun e => nd.1 (e ▸ List.mem_map.mpr ⟨(x, u), h, rfl⟩)
      have : (x == y) = false := by simpa using hne
      rw [this]
      exact ih nd.2 h
theorem zip_fst_sub : ∀ (ps : List Str) (us : List Value), ((ps.zip us).map (·.1)).Sublist ps
  | [], _ => by simp
  | p :: ps, [] => by simp
  | p :: ps, u :: us => by
    rw [List.zip_cons_cons, List.map_cons]
    exact (zip_fst_sub ps us).cons₂ p
theorem zip_lookup {ps : List Str} {us : List Value} (nd : ps.Nodup) {i : Nat} {x : Str} {u : Value} (h1 : ps[i]? = some x) (h2 : us[i]? = some u) : (ps.zip us).reverse.lookup x = some u := by
  refine rev_lookup ?_ (List.mem_reverse.mpr (List.mem_of_getElem? (i := i) ?_))
  · rw [List.map_reverse]
    refine List.nodup_iff_pairwise_ne.mpr ?_
    rw [List.pairwise_reverse]
    have n2 : ((ps.zip us).map (·.1)).Nodup := by
      refine List.Nodup.sublist ?_ nd
      exact zip_fst_sub ps us
    exact (List.nodup_iff_pairwise_ne.mp n2).imp fun h => h.symm
  · rw [List.getElem?_zip_eq_some]
    exact ⟨h1, h2⟩
section
variable {P : Program} {w : World} {K : PySem.W.Frag} {mg : Str → Option Value} {base : Heap} {C f cc cda : Addr} {qual : Str} {params : Arguments} {st0 : Stmt} {rest : List Stmt} {scope : Scope} {fd : FuncData} {ps : List Str}
theorem err_start {A : Around} {outer : List Env} {s : Shared} {H : Hp} {us : List Value} {vs : List V} {h₁ : Heap} {tk : Nat} (T : ErrI P K C qual params st0 rest scope f fd cc cda) (S : ErrS ps params scope) (hd : A.handled = none) (e0 : Env0 P w K mg base A outer s H) (r : Vals vs us) (hl : vs.length = ps.length)
    (hns : h₁.Ns s.heap.objs.size fun x => (ps.zip us).reverse.lookup x) (kp : ∀ b o, s.heap.get? b = some o → h₁.get? b = some o) : L2.Inv (cxE P w K mg base ps qual scope f cda cc A outer s H) [] (L2.start ps vs) H { s with heap := h₁, toks := tk } := by
  obtain ⟨cl, cld, csl, lc⟩ := T.cell
  have bc := e0.mod.kin _ _ lc
  have noA : ∀ b : Addr, b ∉ (cxE P w K mg base ps qual scope f cda cc A outer s H).ex := fun b z => absurd (show b ∈ ([] : List Addr) from z) (by simp)
  have one : ∀ {y c}, ([("__class__", cc)] : List (Str × Addr)).lookup y = some c → y = "__class__" ∧ c = cc := fun {y c} e => by
    rw [List.lookup_cons] at e
    by_cases q : y = "__class__"
    · subst q
      simp at e
      exact ⟨rfl, e.symm⟩
    · have : (y == "__class__") = false := by simpa using q
      rw [this] at e
      cases e
  refine ⟨⟨e0.mod, S.kind, rfl, rfl, Nat.le_refl _, fun y z c e1 e2 => (one e1).1.trans (one e2).1.symm, fun y hy => ?_, fun y c z _ => ?_, fun _ => hd, Around.frames_deeper e0.frames, .inr ⟨rfl, rfl⟩, fun b z => absurd z (noA b), e0.bs, e0.bsz, fun b _ _ => noA b, fun b z => absurd z (noA b), e0.funs, e0.frf⟩,
    rfl, e0.bare, Un.kept kp, ⟨_, hns, fun i y v e1 e2 e3 => ?_⟩, fun y c e => ?_, e0.hok.fresh (Nat.le_refl _), fun y c e => ?_, fun q hq => absurd (show q ∈ ([] : List (Addr × Obj)) ++ [] from hq) (by simp), e0.hok.kept kp, ?_⟩
  · have hy : scope.names.lookup y = some .cell ∨ scope.names.lookup y = some .free := hy
    rcases hy with hy | hy
    · exact absurd rfl (S.nocell _ (PySem.mem_of_lookup hy))
    · have ey : y = "__class__" := S.free _ (PySem.mem_of_lookup hy) rfl
      refine ⟨cc, ?_⟩
      rw [ey]
      rfl
  · have z : false = true := z
    cases z
  · have e1 : ps[i]? = some y := e1
    have hi : i < vs.length := by
      have := (List.getElem?_eq_some_iff.mp e1).1
      omega
    have ha : vs[i]? = some v := by
      unfold L2.start at e2
      rw [List.getElem?_append_left (by simpa using hi), List.getElem?_map] at e2
      cases e : vs[i]? with
      | none => rw [e] at e2; cases e2
      | some a => rw [e] at e2; cases e2; rfl
    obtain ⟨u, hu, rv⟩ := r.get ha
    exact ⟨u, rv, .inl ⟨S.par y (List.mem_of_getElem? e1), zip_lookup S.nd e1 hu⟩⟩
  · have := (one e).2
    subst this
    exact ⟨_, _, kp _ _ (e0.bs _ _ bc).1, rfl⟩
  · have := (one e).2
    subst this
    exact (e0.bs _ _ bc).2
  · unfold L2.start
    show _ = ps.length
    rw [List.length_append, List.length_map, List.length_replicate]
    omega

/-- ValueError.__init__ bound to an error, called -/
theorem mw_call {M0 : Around} {E : Value → Shared → Prop} {hp : Heap} {g : Array GenState} {d : Drawn} {tk : Nat} {os : OsState} {nm q : Str} {D N u e t0 : Addr} {bs bm bmB : List Value} {hdct : Bool} {sn : List Str} {sub : List Value} {ab : Bool} {col : Option Bool} {dd : Option Addr} {k0 k1 k2 k3 k5 : Option Value} {B newId initId : String} {us : List Value} {Q : Value → Shared → Prop}
    (FB : ExcBaseFacts B newId initId bmB) (hD : hp.get? D = some (excClassObj nm q D N bs bm hdct sn sub ab col dd k0 k1 k2 k3 k5 newId)) (he : hp.get? e = some (HandSPX.excO D t0)) (hu : hp.get? u = some (PySem.W.kxs_mw initId e)) (hz : us.length ≤ sizeLine)
    (hq : ∀ h' t1, (∀ b o, b ≠ e → hp.get? b = some o → h'.get? b = some o) → h'.get? e = some (HandSPX.excO D t1) → Q .none ⟨h', g, d, tk, os⟩) : wpAny (model P w) M0 (call (.ref u) us) Q E ⟨hp, g, d, tk, os⟩ := by
  refine wpAny_call (codeAny_of_tree (show wpAny _ M0.in1 (callAny (.ref u) ⟨us, []⟩) _ _ _ from ?_))
  simp only [callAny]
  refine wpAny_bind (wpAny_load hu (?_ : wpAny _ _ _ _ _ _))
  have t1 : (Value.type "method-wrapper" == Value.type "method" || Value.type "method-wrapper" == Value.type "builtin_function_or_method" || Value.type "method-wrapper" == Value.type "method-wrapper") = true := by decide
  simp only [PySem.W.kxs_mw, t1, if_true]
  refine PySem.W.KFB.if_so (by decide) (wpAny_bind (PySem.W.check_bound_init FB.toExcCallFacts hD he rfl (wpAny_bind (wpAny_pure (wpAny_pure ⟨plainId_quiet FB.init.plain _, codeAny_builtin FB.initEntry ?_⟩)))))
  exact PySem.W.exc_init_tree (cls := .ref D) (t0 := t0) (dv := none) (c2 := .none) (c3 := .none) (b4 := .bool false) he hz fun h' k e' _ => hq h' _ k e'
/-- super().__init__(e): self at a -/
theorem super_stmt {A : Around} {outer : List Env} {s0 s : Shared} {H0 H : Hp} {pins : List (Addr × Obj)} {σ : L2.St} {a : Addr} {e : Expr} {te : TE} {p0 p1 p2 p3 p4 : Pos} {pl : Sem Bool} {Q : Flow → Shared → Prop} {R : Hp → Prop} (T : ErrI P K C qual params st0 rest scope f fd cc cda) (S : ErrS ps params scope) (OX : OexC K C)
    (he : PE (cxE P w K mg base ps qual scope f cda cc A outer s0 H0) e te) (hst : st0 = .Expr (.Call (.Attribute (.Call (.Name "super" p0) [] [] p1) "__init__" p2) [e] [] p3) p4)
    (I : L2.Inv (cxE P w K mg base ps qual scope f cda cc A outer s0 H0) pins σ H s) (hσ : σ[0]? = some (some (.ref a))) (ha : H a = some (exo a C none))
    (hi : interactive (envE qual scope s0.heap.objs.size f cda cc) = false) (hs : swapsWith (.Call (.Attribute (.Call (.Name "super" p0) [] [] p1) "__init__" p2) [e] [] p3) none p4.line (envE qual scope s0.heap.objs.size f cda cc) = pure false)
    (hev : eval (.Call (.Attribute (.Call (.Name "super" p0) [] [] p1) "__init__" p2) [e] [] p3) (envE qual scope s0.heap.objs.size f cda cc) = (do
      let ov ← attributeBase (.Call (.Name "super" p0) [] [] p1) "__init__" (envE qual scope s0.heap.objs.size f cda cc) (eval (.Call (.Name "super" p0) [] [] p1) (envE qual scope s0.heap.objs.size f cda cc))
      standAt p2.atName
      let (fx, first) ← holding [ov] (getMethod ov "__init__" pl)
      callWith p3 fx first (backTo p3 (starEach [e] (envE qual scope s0.heap.objs.size f cda cc))) []))
    (hse : starEach [e] (envE qual scope s0.heap.objs.size f cda cc) = [(false, eval e (envE qual scope s0.heap.objs.size f cda cc))])
    (h : te σ H fun _ H1 => H1 a = some (exo a C none) ∧ R H1) (q : ∀ H1 s', L2.Inv (cxE P w K mg base ps qual scope f cda cc A outer s0 H0) pins σ H1 s' → R H1 → Q .next s') :
    PySem.wpAt (model P w) (A.deeper (envE qual scope s0.heap.objs.size f cda cc)) (.func (st0 :: rest) (envE qual scope s0.heap.objs.size f cda cc)) (exec st0 (envE qual scope s0.heap.objs.size f cda cc)) Q (fun _ _ => False) s := by
  obtain ⟨oc, od, dV, kV, doc, pm, an, ct, osl, rfl, lf⟩ := T.fn
  obtain ⟨ccl, cdd, vs, ccs, file, tf, lcode, hvs, hfile⟩ := T.code
  obtain ⟨cl, cld, csl, lcell⟩ := T.cell
  obtain ⟨ar, har, har2⟩ := S.head
  obtain ⟨cd, hcd⟩ := T.cls
  obtain ⟨m, hns, hl⟩ := I.loc
  obtain ⟨us, rus, lus⟩ := hl 0 ar.arg _ har2 hσ (.inl (S.par _ (List.mem_of_getElem? har2)))
  obtain rfl : us = Value.ref a := rus
  have hself : m ar.arg = some (.ref a) := by
    rcases lus with ⟨_, z⟩ | ⟨z, _⟩
    · exact z
    · have z : scope.names.lookup ar.arg = some .cell ∨ scope.names.lookup ar.arg = some .free := z
      rw [S.par _ (List.mem_of_getElem? har2)] at z
      rcases z with z | z <;> cases z
  subst hst
  have X := I.kIn
  obtain ⟨t1, ho⟩ := exo_at I.hok ha
  obtain ⟨oD, hD1, hD2⟩ : ∃ oD, s.heap.get? C = some oD ∧ oD.data = .cls cd := by
    unfold PySem.W.clsIn at hcd
    split at hcd
    · rename_i c d cd' sl z
      cases hcd
      exact ⟨_, X _ _ z, rfl⟩
    · cases hcd
  have bl := fun b o (z : K.lookup b = some o) => X b o z
  obtain ⟨mb, hmb1, hmb2⟩ := I.mod.blt
  have Ia : PySem.W.InstAt s.heap a { cls := .ref C, dict := none, data := .fields #[.ref t1, .none, .none, .none, .bool false, .none] } C none := ⟨ho, rfl, rfl, trivial⟩
  refine ks_wpAt_Expr_any (ks_wpAt_MethodCall (ks_wpAt_super_base (env := envE qual scope s0.heap.objs.size f cda cc) S.sup S.cls (by decide) rfl (bl _ _ lf) rfl har rfl (bl _ _ lcode) rfl hvs hfile T.top ?_) hev) hi hs
  refine PySem.W.ks_loadName_global S.kind S.sup (Calls.loadGlobal_builtin (I.mod.glob.keeps I.bk) (PySem.W.mg_none_of (I.ok.mod.kin) I.mod.glob T.sup) (hmb1.keeps I.bk) ((hmb2 "super" (by decide)).trans (by decide +kernel : bootBuiltins "super" = some (.type "super"))) ⟨rfl, ?_⟩)
  refine wpAny_loadName_free S.kind S.cls rfl ⟨_, bl _ _ lcell, rfl⟩ (wpAny_loadName_local S.kind (S.par _ (List.mem_of_getElem? har2)) hns hself ?_)
  obtain ⟨hh, g, d, t, os⟩ := s
  refine ks_wpAny_isType_cls hD1 hD2 ⟨rfl, ks_wpAny_call_super hD1 hD2 ho rfl (fun c z => by cases z) (PySem.W.looks_mroIn X T.mro) fun h1 e1 k1 => ?_⟩
  have I1 : L2.Inv (cxE P w K mg base ps qual scope f cda cc A outer s0 H0) pins σ H ⟨h1, g, d, t, os⟩ := I.kept k1
  have X1 := I1.kIn
  have Ia1 : PySem.W.InstAt h1 a { cls := .ref C, dict := none, data := .fields #[.ref t1, .none, .none, .none, .bool false, .none] } C none := ⟨k1 _ _ ho, rfl, rfl, trivial⟩
  have hC1 : PySem.W.Looks (model P w) h1 (mroOf (.ref C)) cd.mro := fun A Q E s k q => wpAny_bind ((PySem.W.looks_clsIn X1 hcd) A _ E s k (wpAny_pure q))
  have hini := T.ini
  unfold PySem.W.ks_superIn at hini
  rw [hcd] at hini
  refine PySem.W.kxs_getMethod PySem.W.kxs_ValueError e1 (PySem.W.looks_opaque X1 T.own) hC1 rfl X1 hini (Ia1.type.andThen (PySem.W.looks_subIn X1 T.ve)) (PySem.W.ks_ne X1 Ia1 hcd) (by decide) ?_
  have I2 : L2.Inv (cxE P w K mg base ps qual scope f cda cc A outer s0 H0) ((h1.objs.size, PySem.W.kxs_mw "ValueError.__init__" a) :: pins) σ H ⟨h1.push (PySem.W.kxs_mw "ValueError.__init__" a), g, d, t + 1, os⟩ := by
    have J := I1.kept (h' := h1.push (PySem.W.kxs_mw "ValueError.__init__" a)) (t' := t + 1) fun b o e => Heap.get?_push_of_some _ e
    refine { J with pin := fun p hp => ?_ }
    rcases List.mem_append.mp hp with hp | hp
    · exact J.pin p (List.mem_append_left _ hp)
    · rcases List.mem_cons.mp hp with rfl | hp
      · exact ⟨Heap.get?_push_size _ rfl, I1.hok.fresh (Nat.le_refl _), Nat.ne_of_gt I1.lt, I1.nofs (Nat.le_refl _), fun v z => by cases z⟩
      · exact J.pin p (List.mem_append_right _ hp)
  rw [hse]
  refine PySem.W.kxs_callWith (i := "ValueError.__init__") (x := a) (by rfl) (Calls.evalArgs_plain ?_)
  show wpAny _ _ (spliced ((false, eval e (envE qual scope s0.heap.objs.size f cda cc)) :: backTo p3 [])) _ _ _
  refine Calls.spliced_cons (thn (he.run _ _ σ H _ I2 h) fun u s3 hu => ?_)
  obtain ⟨v, H1, I3, rv, ea, hR⟩ := hu
  refine Calls.spliced_nil ⟨(I3.pin _ (List.mem_append_right _ List.mem_cons_self)).1, ?_⟩
  have I4 : L2.Inv (cxE P w K mg base ps qual scope f cda cc A outer s0 H0) pins σ H1 s3 := { I3 with pin := fun p hp => I3.pin p ((List.mem_append.mp hp).elim (fun z => List.mem_append_left _ z) fun z => List.mem_append_right _ (List.mem_cons_of_mem _ z)) }
  obtain ⟨nm, q0, N, bs, bm, sn, sub, ab, col, dd, k0, k1', k2, k3, k5, hC, hbm⟩ := OX.cls
  obtain ⟨t3, ho3⟩ := exo_at I4.hok ea
  have hu3 := (I3.pin _ (List.mem_append_right _ List.mem_cons_self)).1
  obtain ⟨h3, g3, d3, tk3, os3⟩ := s3
  refine mw_call F.excBase_ValueError (I4.kIn _ _ hC) ho3 hu3 (by show 1 ≤ sizeLine; rw [sizeLine_eq]; omega) fun h' t4 k e' => ?_
  have J := I4.write (t' := tk3) (x := a) (e := a) (o := exo a C none) (by rw [ea]; exact True.intro) (.inl rfl) k ⟨_, e'⟩ (exo_ok e')
  have eu : upd H1 a (exo a C none) = H1 := by
    funext b
    by_cases hb : b = a
    · rw [hb, upd_same, ea]
    · rw [upd_ne hb]
  rw [eu] at J
  exact q H1 _ J hR
end
end QD

/-! QD24: the promise of such an __init__ by data. -/
namespace QD
open PySem L2 PyProof.Rows PySem.Spec
section
variable {P : Program} {w : World} {K : PySem.W.Frag} {mg : Str → Option Value} {base : Heap} {C f cc cda : Addr} {qual : Str} {params : Arguments} {st0 : Stmt} {rest : List Stmt} {scope : Scope} {fd : FuncData} {ps : List Str}
/-- the def runs: its message, then what is left of it -/
theorem err_of {k : Nat} {sp : Sp} {e : Expr} {p0 p1 p2 p3 p4 : Pos} (T : ErrI P K C qual params st0 rest scope f fd cc cda) (S : ErrS ps params scope) (OX : OexC K C) (hst : st0 = .Expr (.Call (.Attribute (.Call (.Name "super" p0) [] [] p1) "__init__" p2) [e] [] p3) p4)
    (hi : ∀ L, interactive (envE qual scope L f cda cc) = false) (hs : ∀ L, swapsWith (.Call (.Attribute (.Call (.Name "super" p0) [] [] p1) "__init__" p2) [e] [] p3) none p4.line (envE qual scope L f cda cc) = pure false)
    (hev : ∀ L, ∃ pl : Sem Bool, eval (.Call (.Attribute (.Call (.Name "super" p0) [] [] p1) "__init__" p2) [e] [] p3) (envE qual scope L f cda cc) = (do
      let ov ← attributeBase (.Call (.Name "super" p0) [] [] p1) "__init__" (envE qual scope L f cda cc) (eval (.Call (.Name "super" p0) [] [] p1) (envE qual scope L f cda cc))
      standAt p2.atName
      let (fx, first) ← holding [ov] (getMethod ov "__init__" pl)
      callWith p3 fx first (backTo p3 (starEach [e] (envE qual scope L f cda cc))) []))
    (hse : ∀ L, starEach [e] (envE qual scope L f cda cc) = [(false, eval e (envE qual scope L f cda cc))]) (len : ∀ vs H Q E, sp vs H Q E → vs.length = ps.length)
    (hbody : ∀ (A : Around) (outer : List Env) (s : Shared) (H : Hp) (vs : List V) (Q : VK) (E : XK), Room k (A.deeper (envE qual scope s.heap.objs.size f cda cc)) → sp vs H Q E →
      ∃ (a : Addr) (te : TE) (ts : TS), vs[0]? = some (.ref a) ∧ H a = some (exo a C none) ∧ PE (cxE P w K mg base ps qual scope f cda cc A outer s H) e te ∧ PSs (cxE P w K mg base ps qual scope f cda cc A outer s H) rest ts ∧
        te (L2.start ps vs) H fun _ H1 => H1 a = some (exo a C none) ∧ ts { nx := fun _ H' => Q .non H', rt := fun _ _ => False } (L2.start ps vs) H1) : FnOk P w K mg base CX0 (k + 1) f fd ps sp := by
  refine ⟨len, fun A outer s H args us vs Q E hr e0 hb r hsp => ?_⟩
  have hl := len _ _ _ _ hsp
  obtain ⟨oc, od, dV, kV, doc, pm, an, ct, osl, efd, lf⟩ := T.fn
  have KX : K.In s.heap := e0.mod.kin.keeps fun b o e => (e0.bs b o e).1
  have lim : s.heap.NoLimit := e0.mod.nolimit.keeps fun b o e => (e0.bs b o e).1
  have hr1 : Room k (A.deeper (envE qual scope s.heap.objs.size f cda cc)) := hr.deeper _
  obtain ⟨a, te, ts, hv0, ha, he, hrest, hq⟩ := hbody A outer s H vs Q E hr1 hsp
  subst efd
  refine ks_codeAny_call_defAt (fd := PySem.W.ksFn "__init__" qual params (st0 :: rest) scope dV kV doc pm an (.ref cda) ct cc) (body := st0 :: rest) (binds := ps.zip us) hr.depth (KX _ _ lf) rfl lim (PySem.W.codeRec_of KX T.cd) rfl hb S.nocell
    (fun y hy => S.par y.1 (List.of_mem_zip hy).1) (fun h₁ hns hk => ?_) S.co S.gen S.kind
  have I0 : L2.Inv (cxE P w K mg base ps qual scope f cda cc A outer s H) [] (L2.start ps vs) H { s with heap := h₁, toks := s.toks + (ps.zip us).length } := err_start T S hr.hd e0 r hl hns hk
  have h0 : (L2.start ps vs)[0]? = some (some (.ref a)) := by
    unfold L2.start
    have : 0 < vs.length := (List.getElem?_eq_some_iff.mp hv0).1
    rw [List.getElem?_append_left (by simpa using this), List.getElem?_map, hv0]
    rfl
  obtain ⟨pl, hev⟩ := hev s.heap.objs.size
  show PySem.wpAt (model P w) (A.deeper (envE qual scope s.heap.objs.size f cda cc)) (.func (st0 :: rest) (envE qual scope s.heap.objs.size f cda cc)) (execs (st0 :: rest) (envE qual scope s.heap.objs.size f cda cc)) _ _ _
  refine ks_wpAt_mono (E' := _) (ks_wpAt_execs_cons (E := fun _ _ => False) (Q := fun fl s' => SP (cxE P w K mg base ps qual scope f cda cc A outer s H) [] { nx := fun _ H' => Q .non H', rt := fun _ _ => False } fl s') (super_stmt (R := fun H1 => ts { nx := fun _ H' => Q .non H', rt := fun _ _ => False } (L2.start ps vs) H1) T S OX he hst I0 h0 ha (hi _) (hs _) hev (hse _) hq fun H1 s' J hR => ?_)) (fun fl s' hs => ?_) fun _ _ z => z.elim
  · exact wpAt_of_wpAny (hrest.run [] s' _ H1 _ J hR)
  · cases fl with
    | ret u =>
      obtain ⟨v, σ', H', J, rv, q⟩ := hs
      exact q.elim
    | next =>
      obtain ⟨σ', H', J, q⟩ := hs
      exact ⟨.non, H', J.os, J.bare, J.base, J.hok, rfl, q⟩
    | brk =>
      obtain ⟨_, _, _, q⟩ := hs
      exact False.elim q
    | cont =>
      obtain ⟨_, _, _, q⟩ := hs
      exact False.elim q
end

/-! ### its fields -/
/-- what _copied promises -/
def dtCopied (n : Nat) : DF := fun _ ds P _ => ∃ d, ds = [d] ∧ pl d = true ∧ dep d < n ∧ P d
/-- self.f = _copied(x), .., self.code = '..' -/
def tsF (K : PySem.W.Frag) (spc : Sp) (code : Str) : List (Str × Nat) → TS
  | [] => tOst K "code" (tVar 0) (tC (.str code))
  | p :: r => tSeq (tOst K p.1 (tVar 0) (tCall spc [] (fun _ _ _ => False) (tCons (tVar p.2) tNil))) (tsF K spc code r)
/-- an error that is being made: it stands at x, its dict at d -/
structure Made (K : PySem.W.Frag) (c : Fm) (C : Addr) (H1 : Hp) (x d : Addr) (fs : List (Str × D)) (gs : List (Str × V)) (H : Hp) : Prop where
  ox : H x = some (exo x C (some d))
  od : H d = some (exd d gs)
  nd : H1 d = none
  ne : d ≠ x
  inv : c.I H
  ex : Ex c.S H1 H
  rf : RF K (but H (c.M ++ [x, d])) fs gs
section
variable {K : PySem.W.Frag} {c : Fm} {C x : Addr} {H1 : Hp}
theorem bag_ne (i : c.I H1) {a : Addr} (h : H1 a = none) : ∀ b, c.bag = some b → a ≠ b.2 ∧ a ≠ b.1 := fun b e => by
  obtain ⟨ns, i1, i2, i3, i4, h1, h2, h3⟩ := c.bI b e H1 i
  refine ⟨fun z => ?_, fun z => ?_⟩
  · rw [z, (but_some h2).2] at h
    cases h
  · rw [z, h1] at h
    cases h
theorem notM_of (i : c.I H1) {a : Addr} (h : H1 a = none) : a ∉ c.M := fun z => c.liv H1 i a z h
theorem RF.grow1 {H H' : Hp} (g : Grow H H') {fs : List (Str × D)} {gs : List (Str × V)} (h : RF K H fs gs) : RF K H' fs gs := RF.grow g fs gs h
theorem exd_frz {e : Addr} {fs : List (Str × V)} {o : Obj} {u : HO} : exd e fs ≠ .frz o u := fun z => by
  have z' : HO.ext _ = HO.frz o u := z
  cases z'
/-- one field more -/
theorem Made.put {d : Addr} {fs : List (Str × D)} {gs : List (Str × V)} {H : Hp} (i1 : c.I H1) (m : Made K c C H1 x d fs gs H) {f : Str} {z : D} {y : V} (hx : H1 x = none) (ry : R K (but H (c.M ++ [x, d])) z y) : Made K c C H1 x d ((f, z) :: fs) ((f, y) :: gs) (upd H d (exd d ((f, y) :: gs))) := by
  have g : Grow (but H (c.M ++ [x, d])) (but (upd H d (exd d ((f, y) :: gs))) (c.M ++ [x, d])) := fun a o e => by
    obtain ⟨n, e⟩ := but_some e
    have hne : a ≠ d := fun z => n (List.mem_append_right _ (by rw [z]; simp))
    exact but_of n (by rw [upd_ne hne]; exact e)
  refine ⟨by rw [upd_ne m.ne.symm]; exact m.ox, upd_same, m.nd, m.ne, c.mu H _ d m.inv (fun a o e n => by rw [upd_ne n]; exact e) (notM_of i1 m.nd) (fun b e => (bag_ne i1 m.nd b e).1) (fun o u z => exd_frz (Option.some.inj (m.od.symm.trans z))), fun a o e n => ?_, ⟨y, gs, rfl, R.grow g _ _ ry, RF.grow1 g m.rf⟩⟩
  have hne : a ≠ d := ne_of_none e m.nd
  rw [upd_ne hne]
  exact m.ex a o e n
theorem Made.wide {d : Addr} {fs : List (Str × D)} {gs : List (Str × V)} {H : Hp} (i1 : c.I H1) (hx : H1 x = none) (m : Made K c C H1 x d fs gs H) : ∃ cf : Fm, cf.bag = c.bag ∧ cf.M = c.M ++ [x, d] ∧ cf.S = c.S ∧ cf.I H ∧ (∀ H', cf.I H' → c.I H') :=
  ⟨c.wide [x, d] fun b e => by
    obtain ⟨a1, a2⟩ := bag_ne i1 hx b e
    obtain ⟨b1, b2⟩ := bag_ne i1 m.nd b e
    exact ⟨by simp [a1.symm, b1.symm], by simp [a2.symm, b2.symm]⟩, rfl, rfl, rfl, ⟨m.inv, fun a ha => by
      simp only [List.mem_cons, List.not_mem_nil, or_false] at ha
      rcases ha with rfl | rfl
      · exact ⟨_, m.ox, rfl⟩
      · exact ⟨_, m.od, rfl⟩⟩, fun H' h => h.1⟩
theorem Made.call {d : Addr} {fs : List (Str × D)} {gs : List (Str × V)} {H H' : Hp} (i1 : c.I H1) (hx : H1 x = none) (m : Made K c C H1 x d fs gs H) (i' : c.I H') (e : Ex c.S H H') : Made K c C H1 x d fs gs H' :=
  ⟨e _ _ m.ox fun z => notM_of i1 hx (c.sub _ z), e _ _ m.od fun z => notM_of i1 m.nd (c.sub _ z), m.nd, m.ne, i', m.ex.trans e, RF.grow1 (e.but fun a z => List.mem_append_left _ (c.sub a z)) m.rf⟩
/-- fields, once there is a dict -/
theorem errSt {k : Nat} {code : Str} {D : Ends} {σ : L2.St} {Fin : List (Str × QD.D) → Prop} (OX : OexC K C) (i1 : c.I H1) (hx : H1 x = none) (h0 : σ[0]? = some (some (.ref x))) (hcode : PySem.W.findIn K (.ref C) "code" = some none)
    (q : ∀ d fs gs H, Fin fs → Made K c C H1 x d fs gs H → D.nx σ H) : ∀ (l : List (Str × Nat)) (ds : List QD.D) (d : Addr) (fs : List (Str × QD.D)) (gs : List (Str × V)) (H : Hp), l.length = ds.length → (∀ p ∈ l.zip ds, PySem.W.findIn K (.ref C) p.1.1 = some none ∧ pl p.2 = true ∧ dep p.2 < k ∧ ∃ w, σ[p.1.2]? = some (some w) ∧ R K (but H1 c.M) p.2 w) →
      Made K c C H1 x d fs gs H → gs.length + l.length ≤ 800 → Fin (("code", .str code) :: (((l.map (·.1)).zip ds).reverse ++ fs)) → tsF K (spD K 1 (dtCopied k)) code l D σ H
  | [], ds, d, fs, gs, H, hl, _, m, hz, hf => by
    have : ds = [] := List.length_eq_zero_iff.mp hl.symm
    subst this
    refine ⟨.ref x, h0, x, C, rfl, OX, hcode, .inr ⟨d, gs, m.ox, m.od, Nat.le_trans (by simpa using hz) (by decide : 800 ≤ 900), ?_⟩⟩
    exact q d _ _ _ (by simpa using hf) (m.put i1 (f := "code") (z := .str code) (y := .str code) hx rfl)
  | p :: l, [], _, _, _, _, hl, _, _, _, _ => by simp at hl
  | p :: l, z :: ds, d, fs, gs, H, hl, hp, m, hz, hf => by
    obtain ⟨na, h1, h2, w, hw, rw_⟩ := hp (p, z) (by rw [List.zip_cons_cons]; exact List.mem_cons_self)
    obtain ⟨cf, e1, e2, e3, i2, i3⟩ := m.wide i1 hx
    have gH : Grow (but H1 c.M) (but H (c.M ++ [x, d])) := fun a o e => by
      obtain ⟨n, e⟩ := but_some e
      have n1 : a ≠ x := ne_of_none e hx
      have n2 : a ≠ d := ne_of_none e m.nd
      refine but_of (fun z => (List.mem_append.mp z).elim n fun z => ?_) (m.ex a o e fun z => n (c.sub a z))
      simp only [List.mem_cons, List.not_mem_nil, or_false] at z
      exact z.elim n1 n2
    refine ⟨w, hw, cf, [z], fun d' => d' = z, fun _ _ => False, rfl, i2, ?_, ⟨z, rfl, h1, h2, rfl⟩, fun v d' H' hd i' ex' r' => ?_, fun _ _ _ _ _ hf => hf.elim⟩
    · rw [e2]
      exact ⟨w, [], rfl, R.grow gH _ _ rw_, rfl⟩
    subst hd
    rw [e2] at r'
    rw [e3] at ex'
    have m' := m.call i1 hx (i3 _ i') ex'
    rw [List.length_cons] at hz hl
    refine ⟨.ref x, h0, x, C, rfl, OX, na, .inr ⟨d, gs, m'.ox, m'.od, by omega, ?_⟩⟩
    refine errSt OX i1 hx h0 hcode q l ds d _ _ _ (by simpa using hl) (fun p hp' => hp p (by rw [List.zip_cons_cons]; exact List.mem_cons_of_mem _ hp')) (m'.put i1 (f := p.1) hx r') (by rw [List.length_cons]; omega) ?_
    simpa using hf
/-- the first field -/
theorem errSt0 {k : Nat} {code : Str} {D : Ends} {σ : L2.St} {Fin : List (Str × QD.D) → Prop} {l : List (Str × Nat)} {ds : List QD.D} {H : Hp} (OX : OexC K C) (i1 : c.I H1) (hx : H1 x = none) (h0 : σ[0]? = some (some (.ref x))) (hcode : PySem.W.findIn K (.ref C) "code" = some none)
    (q : ∀ d fs gs H, Fin fs → Made K c C H1 x d fs gs H → D.nx σ H) (hl : l.length = ds.length) (hp : ∀ p ∈ l.zip ds, PySem.W.findIn K (.ref C) p.1.1 = some none ∧ pl p.2 = true ∧ dep p.2 < k ∧ ∃ w, σ[p.1.2]? = some (some w) ∧ R K (but H1 c.M) p.2 w)
    (hH : H x = some (exo x C none)) (iH : c.I H) (eH : Ex c.S H1 H) (hz : l.length ≤ 800) (hf : Fin (("code", .str code) :: ((l.map (·.1)).zip ds).reverse)) : tsF K (spD K 1 (dtCopied k)) code l D σ H := by
  -- a store of the first field
  have first : ∀ {f : Str} {z : QD.D} {y : V} {H2 : Hp}, H2 x = some (exo x C none) → c.I H2 → Ex c.S H1 H2 → R K (but H2 (c.M ++ [x])) z y → ∀ dx, H2 dx = none → dx ≠ x → Made K c C H1 x dx [(f, z)] [(f, y)] (upd (upd H2 dx (exd dx [(f, y)])) x (exo x C (some dx))) := fun {f z y H2} h2 i2 e2 ry dx hdx hne => by
    have nd : H1 dx = none := by
      cases q : H1 dx with
      | none => rfl
      | some o =>
        by_cases hS : dx ∈ c.S
        · exact absurd hdx (c.liv H2 i2 dx (c.sub _ hS))
        · rw [e2 _ _ q hS] at hdx; cases hdx
    have k1 : ∀ a o, H2 a = some o → a ≠ x → upd (upd H2 dx (exd dx [(f, y)])) x (exo x C (some dx)) a = some o := fun a o e n => by rw [upd_ne n, upd_ne (ne_of_none e hdx)]; exact e
    refine ⟨upd_same, by rw [upd_ne hne]; exact upd_same, nd, hne, c.mu H2 _ x i2 k1 (notM_of i1 hx) (fun b e => (bag_ne i1 hx b e).1) (fun o u z => exo_frz (Option.some.inj (h2.symm.trans z))), fun a o e n => k1 a o (e2 a o e n) (ne_of_none e hx), ⟨y, [], rfl, R.grow (fun a o e => ?_) _ _ ry, rfl⟩⟩
    obtain ⟨n, e⟩ := but_some e
    have n1 : a ≠ x := fun z => n (List.mem_append_right _ (by rw [z]; simp))
    refine but_of (fun z => ?_) (k1 a o e n1)
    rcases List.mem_append.mp z with z | z
    · exact n (List.mem_append_left _ z)
    · simp only [List.mem_cons, List.not_mem_nil, or_false] at z
      rcases z with z | z
      · exact n1 z
      · rw [z, hdx] at e; cases e
  cases l with
  | nil =>
    have : ds = [] := List.length_eq_zero_iff.mp hl.symm
    subst this
    refine ⟨.ref x, h0, x, C, rfl, OX, hcode, .inl ⟨hH, fun dx hdx hne => ?_⟩⟩
    exact q dx _ _ _ hf (first (f := "code") (z := .str code) hH iH eH rfl dx hdx hne)
  | cons p l =>
    cases ds with
    | nil => simp at hl
    | cons z ds =>
      obtain ⟨na, h1, h2, w, hw, rw_⟩ := hp (p, z) (by rw [List.zip_cons_cons]; exact List.mem_cons_self)
      have hb : ∀ b, c.bag = some b → b.2 ∉ [x] ∧ b.1 ∉ [x] := fun b e => by
        obtain ⟨a1, a2⟩ := bag_ne i1 hx b e
        exact ⟨by simp [a1.symm], by simp [a2.symm]⟩
      have gH : Grow (but H1 c.M) (but H (c.M ++ [x])) := fun a o e => by
        obtain ⟨n, e⟩ := but_some e
        have n1 : a ≠ x := ne_of_none e hx
        refine but_of (fun z => (List.mem_append.mp z).elim n fun z => ?_) (eH a o e fun z => n (c.sub a z))
        simp only [List.mem_cons, List.not_mem_nil, or_false] at z
        exact n1 z
      refine ⟨w, hw, c.wide [x] hb, [z], fun d' => d' = z, fun _ _ => False, rfl, ⟨iH, fun a ha => ?_⟩, ⟨w, [], rfl, R.grow gH _ _ rw_, rfl⟩, ⟨z, rfl, h1, h2, rfl⟩, fun v d' H' hd i' ex' r' => ?_, fun _ _ _ _ _ hf => hf.elim⟩
      · rw [List.mem_singleton.mp ha]
        exact ⟨_, hH, rfl⟩
      subst hd
      have ex' : Ex c.S H H' := ex'
      have hx' : H' x = some (exo x C none) := ex' _ _ hH fun z => notM_of i1 hx (c.sub _ z)
      rw [List.length_cons] at hz hl
      refine ⟨.ref x, h0, x, C, rfl, OX, na, .inl ⟨hx', fun dx hdx hne => ?_⟩⟩
      refine errSt OX i1 hx h0 hcode q l ds dx _ _ _ (by simpa using hl) (fun p hp' => hp p (by rw [List.zip_cons_cons]; exact List.mem_cons_of_mem _ hp')) (first (f := p.1) hx' i'.1 (eH.trans ex') r' dx hdx hne) (by simp only [List.length_cons, List.length_nil]; omega) ?_
      simpa using hf
end
/-! ### the promise -/
def spX (K : PySem.W.Frag) (C : Addr) (n : Nat) (dT : List D → (List (Str × D) → Prop) → Prop) : Sp := fun vs H Q _ => ∃ (x : Addr) (ws : List V) (H1 : Hp) (c : Fm) (ds : List D) (Fin : List (Str × D) → Prop),
  vs = .ref x :: ws ∧ H = upd H1 x (exo x C none) ∧ H1 x = none ∧ ds.length = n ∧ c.I H1 ∧ RA K (but H1 c.M) ds ws ∧ dT ds Fin ∧ ∀ d fs gs H', Fin fs → Made K c C H1 x d fs gs H' → Q .non H'
def flatD : D → Bool
  | .str x => PyData.strOk x && decide (x.length ≤ 1000)
  | .int i => decide (i.natAbs.log2 < 1920)
  | .bl _ => true
  | .non => true
  | _ => false
/-- what an error's message may show -/
def showD : D → Bool
  | .lst ds => decide (ds.length ≤ 100) && ds.all flatD
  | .tup ds => decide (ds.length ≤ 100) && ds.all flatD
  | d => flatD d
def dtErr (fns : List Str) (code : Str) (k : Nat) : List D → (List (Str × D) → Prop) → Prop := fun ds P => ds.length = fns.length ∧ (∀ d ∈ ds, pl d = true ∧ dep d < k ∧ showD d = true) ∧ P (("code", .str code) :: (fns.zip ds).reverse)
section
variable {P : Program} {w : World} {K : PySem.W.Frag} {mg : Str → Option Value} {base : Heap} {C f cc cda : Addr} {qual : Str} {params : Arguments} {st0 : Stmt} {rest : List Stmt} {scope : Scope} {fd : FuncData} {ps : List Str}
theorem rep_err {c : Fm} {H1 : Hp} {ds : List D} {ws : List V} {x : Addr} (i : c.I H1) (ra : RA K (but H1 c.M) ds ws) (hx : H1 x = none) {o : HO} (ho : mutO o = true := by rfl) : ∃ cf : Fm, cf.S = c.S ∧ (∀ H, cf.I H → c.I H) ∧ Rep K cf (upd H1 x o) [] (upd H1 x o) (some (.ref x) :: ws.map some) (none :: ds.map fun d => some (Ent.val d)) := by
  have hb : ∀ b, c.bag = some b → b.2 ∉ [x] ∧ b.1 ∉ [x] := fun b e => by
    obtain ⟨a1, a2⟩ := bag_ne i hx b e
    exact ⟨by simp [a1.symm], by simp [a2.symm]⟩
  have g : Grow H1 (upd H1 x o) := Grow.new hx
  have iv : (c.wide [x] hb).I (upd H1 x o) := ⟨c.st _ _ g i, fun a ha => by rw [List.mem_singleton.mp ha]; exact ⟨o, upd_same, ho⟩⟩
  have gH : Grow (but H1 c.M) (but (upd H1 x o) (c.M ++ [x])) := fun a u e => by
    obtain ⟨n, e⟩ := but_some e
    have n1 : a ≠ x := ne_of_none e hx
    refine but_of (fun z => (List.mem_append.mp z).elim n fun z => n1 (List.mem_singleton.mp z)) (g _ _ e)
  refine ⟨c.wide [x] hb, rfl, fun H h => h.1, iv, iv, Ex.refl _, fun a h => by simp at h, fun a h => by simp at h, by rw [List.length_cons, List.length_cons, List.length_map, List.length_map, ra.length], fun j d q => ?_, fun j e q => ?_, fun j l e e' p q1 q2 => ?_, fun y D fs _ q => by cases q⟩
  · cases j with
    | zero => cases q
    | succ j =>
      rw [List.getElem?_cons_succ, List.getElem?_map] at q ⊢
      obtain ⟨d', e1, e2⟩ := Option.map_eq_some_iff.mp q
      cases e2
      obtain ⟨v, h1, h2⟩ := ra.get' e1
      exact ⟨v, by rw [h1]; rfl, by rw [List.append_nil]; exact R.grow gH _ _ h2⟩
  · cases j with
    | zero => cases q
    | succ j =>
      rw [List.getElem?_cons_succ, List.getElem?_map] at q
      obtain ⟨d', e1, e2⟩ := Option.map_eq_some_iff.mp q
      cases e2
  · cases j with
    | zero => cases q1
    | succ j =>
      rw [List.getElem?_cons_succ, List.getElem?_map] at q1
      obtain ⟨d', e1, e2⟩ := Option.map_eq_some_iff.mp q1
      cases e2
theorem err_ok {k kk : Nat} {fns : List Str} {code : Str} {e : Expr} {p0 p1 p2 p3 p4 : Pos} (T : ErrI P K C qual params st0 rest scope f fd cc cda) (S : ErrS ps params scope) (OX : OexC K C) (hst : st0 = .Expr (.Call (.Attribute (.Call (.Name "super" p0) [] [] p1) "__init__" p2) [e] [] p3) p4)
    (hn : ps.length = fns.length + 1) (hz : fns.length ≤ 100) (hna : ∀ n ∈ fns, PySem.W.findIn K (.ref C) n = some none) (hcode : PySem.W.findIn K (.ref C) "code" = some none)
    (hi : ∀ L, interactive (envE qual scope L f cda cc) = false) (hs : ∀ L, swapsWith (.Call (.Attribute (.Call (.Name "super" p0) [] [] p1) "__init__" p2) [e] [] p3) none p4.line (envE qual scope L f cda cc) = pure false)
    (hev : ∀ L, ∃ pl : Sem Bool, eval (.Call (.Attribute (.Call (.Name "super" p0) [] [] p1) "__init__" p2) [e] [] p3) (envE qual scope L f cda cc) = (do
      let ov ← attributeBase (.Call (.Name "super" p0) [] [] p1) "__init__" (envE qual scope L f cda cc) (eval (.Call (.Name "super" p0) [] [] p1) (envE qual scope L f cda cc))
      standAt p2.atName
      let (fx, first) ← holding [ov] (getMethod ov "__init__" pl)
      callWith p3 fx first (backTo p3 (starEach [e] (envE qual scope L f cda cc))) []))
    (hse : ∀ L, starEach [e] (envE qual scope L f cda cc) = [(false, eval e (envE qual scope L f cda cc))])
    (hbody : ∀ (A : Around) (outer : List Env) (s : Shared) (H : Hp), Room k (A.deeper (envE qual scope s.heap.objs.size f cda cc)) → ∃ te dm, PE (cxE P w K mg base ps qual scope f cda cc A outer s H) e te ∧
      PSs (cxE P w K mg base ps qual scope f cda cc A outer s H) rest (tsF K (spD K 1 (dtCopied kk)) code (fns.zip ((List.range fns.length).map (· + 1)))) ∧ (∀ c H0, SimE K c H0 te dm) ∧ ∀ ds : List D, ds.length = fns.length → (∀ d ∈ ds, showD d = true) → dm (none :: ds.map fun d => some (Ent.val d)) fun _ _ => True) :
    FnOk P w K mg base CX0 (k + 1) f fd ps (spX K C fns.length (dtErr fns code kk)) := by
  refine err_of T S OX hst hi hs hev hse (fun vs H Q E h => ?_) fun A outer s H vs Q E hr h => ?_
  · obtain ⟨x, ws, H1, c, ds, Fin, rfl, _, _, hl, _, ra, _⟩ := h
    rw [List.length_cons, ra.length, hl, hn]
  · obtain ⟨te, dm, he, hrest, hsim, hdm⟩ := hbody A outer s H hr
    obtain ⟨x, ws, H1, c, ds, Fin, rfl, rfl, hx, hl, i1, ra, ⟨_, hok, hfin⟩, q⟩ := h
    refine ⟨x, te, _, rfl, upd_same, he, hrest, ?_⟩
    obtain ⟨cf, eS, hI, rp⟩ := rep_err (o := exo x C none) i1 ra hx
    have hst' : L2.start ps (V.ref x :: ws) = some (.ref x) :: ws.map some := by
      unfold L2.start
      rw [List.length_cons, ra.length, hl, hn]
      simp
    rw [hst']
    refine hsim cf _ _ _ (hdm ds hl fun d hd => (hok d hd).2.2) [] _ _ _ rp fun v d b H' _ rp' ex' _ => ?_
    rw [eS] at ex'
    have xS : x ∉ c.S := fun z => notM_of i1 hx (c.sub _ z)
    have h1 : H' x = some (exo x C none) := ex' _ _ upd_same xS
    have e1 : Ex c.S H1 H' := (Ex.new hx).trans ex'
    refine ⟨h1, errSt0 (ds := ds) OX i1 hx rfl hcode (fun d fs gs H2 hf m => q d fs gs H2 hf m) ?_ (fun p hp => ?_) h1 (hI _ rp'.inv) e1 ?_ ?_⟩
    · rw [List.length_zip, List.length_map, List.length_range, Nat.min_self, hl]
    · obtain ⟨⟨n, j⟩, d⟩ := p
      obtain ⟨i, hi'⟩ := List.mem_iff_getElem?.mp hp
      rw [List.getElem?_zip_eq_some, List.getElem?_zip_eq_some] at hi'
      obtain ⟨⟨a1, a2⟩, a3⟩ := hi'
      simp only at a1 a2 a3
      rw [List.getElem?_map] at a2
      obtain ⟨j', b1, b2⟩ := Option.map_eq_some_iff.mp a2
      obtain ⟨hlt, b3⟩ := List.getElem?_eq_some_iff.mp b1
      rw [List.getElem_range] at b3
      subst b3
      obtain ⟨w, g1, g2⟩ := ra.get' a3
      have ok := hok d (List.mem_of_getElem? a3)
      refine ⟨hna n (List.mem_of_getElem? a1), ok.1, ok.2.1, w, ?_, g2⟩
      simp only at b2 ⊢
      rw [← b2, List.getElem?_cons_succ, List.getElem?_map, g1]
      rfl
    · rw [List.length_zip, List.length_map, List.length_range, Nat.min_self]
      omega
    · have e2 : (fns.zip ((List.range fns.length).map (· + 1))).map (·.1) = fns := by
        apply List.ext_getElem?
        intro i
        rw [List.getElem?_map]
        cases h : fns[i]? with
        | none =>
          have : fns.length ≤ i := List.getElem?_eq_none_iff.mp h
          rw [List.getElem?_eq_none]
          · rfl
          · rw [List.length_zip, List.length_map, List.length_range]; omega
        | some n =>
          have hlt := (List.getElem?_eq_some_iff.mp h).1
          have : (fns.zip ((List.range fns.length).map (· + 1)))[i]? = some (n, i + 1) := by
            rw [List.getElem?_zip_eq_some]
            refine ⟨h, ?_⟩
            rw [List.getElem?_map, List.getElem?_range hlt]
            rfl
          rw [this]
          rfl
      rw [e2]
      exact hfin
end
end QD

/-! QD25: raise, defs that raise, calls of such, by data. -/
namespace QD
open PySem L2 PyProof.Rows PySem.Spec
/-! ### {x!r} -/
theorem strOk_small {x : Str} (h : PyData.strOk x = true) : (x.cps.toList.all fun c => decide (c < 16 ^ 8)) = true := by
  unfold PyData.strOk at h
  rw [← Array.all_toList] at h
  refine List.all_eq_true.mpr fun c hc => decide_eq_true ?_
  have := List.all_eq_true.mp h c hc
  simp only [Bool.and_eq_true, decide_eq_true_eq] at this
  omega
section
variable {K : PySem.W.Frag} {c : Fm} {H0 : Hp} {ta tb te : TE} {da db de : DE}
theorem flat_ok {H : Hp} : ∀ {d : D} {v : V}, flatD d = true → R K H d v → okFlat v = true ∧ costFlat v ≤ 10002
  | .str x, v, h, r => by
    rw [show v = .str x from r]
    simp only [flatD, Bool.and_eq_true, decide_eq_true_eq] at h
    refine ⟨strOk_small h.1, ?_⟩
    show 10 * x.length + 2 ≤ _
    omega
  | .int i, v, h, r => by
    rw [show v = .int i from r]
    exact ⟨h, by show 2000 ≤ _; decide⟩
  | .bl b, v, h, r => by
    rw [show v = .bl b from r]
    exact ⟨rfl, by show 2000 ≤ _; decide⟩
  | .non, v, h, r => by
    rw [show v = .non from r]
    exact ⟨rfl, by show 2000 ≤ _; decide⟩
  | .lst _, _, h, _ => by cases h
  | .tup _, _, h, _ => by cases h
  | .ins _ _, _, h, _ => by cases h
  | .lam _, _, h, _ => by cases h
  | .dk _, _, h, _ => by cases h
  | .dt _, _, h, _ => by cases h
  | .raw _, _, h, _ => by cases h
theorem flats_ok {H : Hp} : ∀ {ds : List D} {vs : List V}, ds.all flatD = true → RA K H ds vs → vs.all okFlat = true ∧ costs vs ≤ 10004 * ds.length
  | [], vs, _, r => by
    rw [show vs = [] from r]
    exact ⟨rfl, by decide⟩
  | d :: ds, vs, h, r => by
    obtain ⟨v, r', rfl, h1, h2⟩ := r
    rw [List.all_cons, Bool.and_eq_true] at h
    obtain ⟨a1, a2⟩ := flat_ok h.1 h1
    obtain ⟨b1, b2⟩ := flats_ok h.2 h2
    refine ⟨by rw [List.all_cons, a1, b1]; rfl, ?_⟩
    rw [costs_cons, List.length_cons]
    omega
def dFmtA (da : DE) : DE := fun ρ P => da ρ fun x _ => showD x = true ∧ ∀ m : Str, m.length ≤ 1200000 → P (.str m) false
theorem sim_fmtA (ha : SimE K c H0 ta da) : SimE K c H0 (tFmtA K ta) (dFmtA da) := by
  intro ρ P h O σ H Q rp q
  refine ha ρ _ h O σ H _ rp fun v x b H1 h1 rp1 e1 rx => ?_
  obtain ⟨hs, h2⟩ := h1
  have flat : flatD x = true → tFmtA K (fun _ H Q => Q v H) σ H1 Q := fun hf => by
    obtain ⟨a1, a2⟩ := flat_ok hf rx
    exact .inl ⟨a1, by rw [sizeLine_eq]; omega, fun m hm => q _ _ _ H1 (h2 m (by omega)) rp1 e1 rfl⟩
  have many : ∀ {ds : List D} {xs : List V} {a : Addr}, v = .ref a → (SqL K H1 a xs ∨ SqT K H1 a xs) → ds.length ≤ 100 → ds.all flatD = true → RA K (but H1 (if b = true then c.M else c.M ++ O)) ds xs → tFmtA K (fun _ H Q => Q v H) σ H1 Q := fun {ds xs a} e sq hl hf ra => by
    obtain ⟨b1, b2⟩ := flats_ok hf ra
    exact .inr ⟨a, xs, e, sq, b1, by rw [sizeLine_eq]; omega, fun m hm => q _ _ _ H1 (h2 m (by omega)) rp1 e1 rfl⟩
  cases x with
  | lst ds =>
    simp only [showD, Bool.and_eq_true, decide_eq_true_eq] at hs
    obtain ⟨a, xs, e, g1, g2⟩ := id rx
    exact many e (.inl (.inl (.inl (tracked_of g1)))) hs.1 hs.2 g2
  | tup ds =>
    simp only [showD, Bool.and_eq_true, decide_eq_true_eq] at hs
    obtain ⟨a, xs, e, g1, g2⟩ := id rx
    exact many e (.inr (grow_t but_grow g1)) hs.1 hs.2 g2
  | non => exact flat hs
  | bl _ => exact flat hs
  | int _ => exact flat hs
  | str _ => exact flat hs
  | ins _ _ => cases hs
  | lam _ => cases hs
  | dk _ => cases hs
  | dt _ => cases hs
  | raw _ => cases hs

/-! ### what is wished of an error -/
def ErOk (K : PySem.W.Frag) (c : Fm) (H0 : Hp) (E : XK) (Er : DEr) : Prop := ∀ C d gs fs H', Er C fs → c.I H' → Ex c.S H0 H' → H' d = some (.xd gs) → RF K (but H' c.M) fs gs → E (.ref C) (some d) H'
theorem er_none {E : XK} : ErOk K c H0 E (fun _ _ => False) := fun _ _ _ _ _ h => h.elim
/-- raise C(..) -/
def dRaise (C : Addr) (n : Nat) (dT : List D → (List (Str × D) → Prop) → Prop) (da : DA) (Er : DEr) : DS := fun _ ρ => da ρ fun xs _ => xs.length = n ∧ dT xs (Er C)
theorem made_end {cf : Fm} {C x d : Addr} {fs : List (Str × D)} {gs : List (Str × V)} {H1 H' : Hp} {E : XK} {Er : DEr} (hE : ErOk K c H0 E Er) (i1 : c.I H1) (e1 : Ex c.S H0 H1) (hx : H1 x = none) (eM : ∀ a, a ∈ c.M → a ∈ cf.M) (eS : cf.S = c.S) (eI : ∀ H, cf.I H → c.I H) (m : Made K cf C H1 x d fs gs H') (hf : Er C fs) :
    E (.ref C) (some d) (upd (del H' x) d (.xd gs)) := by
  have n1 : ∀ a o, H' a = some o → a ≠ x → del H' x a = some o := fun a o e n => by rw [del_ne n]; exact e
  have i2 : c.I (del H' x) := c.mu H' _ x (eI _ m.inv) n1 (notM_of i1 hx) (fun b e => (bag_ne i1 hx b e).1) (fun o u z => exo_frz (Option.some.inj (m.ox.symm.trans z)))
  have i3 : c.I (upd (del H' x) d (.xd gs)) := c.mu _ _ d i2 (fun a o e n => by rw [upd_ne n]; exact e) (notM_of i1 m.nd) (fun b e => (bag_ne i1 m.nd b e).1) (fun o u z => by rw [del_ne m.ne, m.od] at z; exact exd_frz (Option.some.inj z))
  have mex := m.ex
  rw [eS] at mex
  refine hE C d gs fs _ hf i3 (e1.trans fun a o e n => ?_) upd_same (RF.grow1 (fun a o e => ?_) m.rf)
  · rw [upd_ne (ne_of_none e m.nd), del_ne (ne_of_none e hx)]
    exact mex a o e n
  · obtain ⟨n, e⟩ := but_some e
    have a1 : a ≠ x := fun z => n (List.mem_append_right _ (by rw [z]; simp))
    have a2 : a ≠ d := fun z => n (List.mem_append_right _ (by rw [z]; simp))
    exact but_of (fun z => n (List.mem_append_left _ (eM a z))) (by rw [upd_ne a2, del_ne a1]; exact e)
theorem sim_raise {C : Addr} {n : Nat} {dT : List D → (List (Str × D) → Prop) → Prop} {t : TA} {da : DA} {E : XK} {Er : DEr} (hE : ErOk K c H0 E Er) (ha : SimA K c H0 t da) (hn : n ≤ 1000 := by decide) :
    SimS K c H0 (fun _ σ H => tMkO C (spX K C n dT) [] t σ H fun cls d H' => E cls d H') (dRaise C n dT da Er) := by
  intro Dd ρ h O σ H Dn F rp g R
  refine ha ρ _ h O σ H _ rp fun vs xs b H1 h1 rp1 e1 rx => ?_
  have hl : vs.length = n := by rw [rx.len]; exact h1.1
  refine ⟨by omega, fun a ha => ?_⟩
  have hM : a ∉ c.M := notM_of rp1.inv ha
  rw [List.append_nil]
  cases b with
  | true => exact ⟨a, vs, H1, c, xs, Er C, rfl, rfl, ha, h1.1, rp1.inv, rx, h1.2, fun d fs gs H' hf m => ⟨rfl, d, gs, m.ox, m.od, m.nd, made_end (cf := c) hE rp1.inv rp1.ent ha (fun _ z => z) rfl (fun _ z => z) m hf⟩⟩
  | false => exact ⟨a, vs, H1, rp1.fm, xs, Er C, rfl, rfl, ha, h1.1, ⟨rp1.inv, rp1.liv⟩, rx, h1.2, fun d fs gs H' hf m => ⟨rfl, d, gs, m.ox, m.od, m.nd, made_end (cf := rp1.fm) hE rp1.inv rp1.ent ha (fun _ z => List.mem_append_left _ z) rfl (fun _ z => z.1) m hf⟩⟩

/-! ### calls that may raise -/
theorem sp_callX {n : Nat} {dT : DF} {E : XK} {Er : DEr} {O : List Addr} {H : Hp} {σ : L2.St} {ρ : DEnv} {b : Bool} {ds : List D} {vs : List V} {P : D → Prop} {Q : VK} (hE : ErOk K c H0 E Er) (rp : Rep K c H0 O H σ ρ) (ra : RBA K c O H b ds vs) (hn : ds.length = n) (hd : dT c.bag ds P Er)
    (q : ∀ v d H', P d → Rep K c H0 O H' σ ρ → Ex c.S H H' → RB K c O H' b d v → Q v H') : spD K n dT vs H Q E := by
  cases b with
  | true => exact ⟨c, ds, P, Er, hn, rp.inv, ra, hd, fun v d H' hp i ex r => q v d H' hp (rp.up ex i) ex r, fun C d gs fs H' hf i ex hx rf => hE C d gs fs H' hf i (rp.ent.trans ex) hx rf⟩
  | false => exact ⟨rp.fm, ds, P, Er, hn, ⟨rp.inv, rp.liv⟩, ra, hd, fun v d H' hp i ex r => q v d H' hp (rp.up ex i.1) ex r, fun C d gs fs H' hf i ex hx rf => hE C d gs fs H' hf i.1 (rp.ent.trans ex) hx (RF.grow1 (but_le fun a z => List.mem_append_left _ z) rf)⟩
def dCallX (bag : Option (Addr × Addr)) (n : Nat) (dT : DF) (dd : List D) (da : DA) (Er : DEr) : DE := fun ρ P => da ρ fun xs b => (xs ++ dd).length = n ∧ dT bag (xs ++ dd) (fun z => P z (dirt z b)) Er
theorem sim_callX {n : Nat} {dT : DF} {dvs : List V} {dd : List D} {E : XK} {Er : DEr} {t : TA} {da : DA} (hE : ErOk K c H0 E Er) (hd : ∀ H, RA K H dd dvs) (ha : SimA K c H0 t da) : SimE K c H0 (tCall (spD K n dT) dvs E t) (dCallX c.bag n dT dd da Er) := by
  intro ρ P h O σ H Q rp q
  refine ha ρ _ h O σ H _ rp fun vs xs b H1 h1 rp1 e1 rx => ?_
  exact sp_callX hE rp1 (show RBA K c O H1 b (xs ++ dd) (vs ++ dvs) from RA.app rx (hd _)) h1.1 h1.2 fun v d H' hp rp' ex r => q v d _ H' hp rp' (e1.trans ex) r.dirt
def dCallNX (bag : Option (Addr × Addr)) (n k m : Nat) (dT : DF) (gD : List D → List D → List D) (da dk : DA) (Er : DEr) : DE := fun ρ P => da ρ fun xs b => dk ρ fun ys b' => (xs.length = k ∧ ys.length = m) ∧ (gD xs ys).length = n ∧ dT bag (gD xs ys) (fun z => P z (dirt z (b || b'))) Er
theorem sim_callNX {n k m : Nat} {dT : DF} {gV : List V → List V → List V} {gD : List D → List D → List D} {E : XK} {Er : DEr} {t tk : TA} {da dk : DA} (hE : ErOk K c H0 E Er) (hg : ∀ {H : Hp} {xs ys : List D} {vs zs : List V}, RA K H xs vs → RA K H ys zs → RA K H (gD xs ys) (gV vs zs))
    (ha : SimA K c H0 t da) (hk : SimA K c H0 tk dk) : SimE K c H0 (tCallN k m (spD K n dT) gV E t tk) (dCallNX c.bag n k m dT gD da dk Er) := by
  intro ρ P h O σ H Q rp q
  refine ha ρ _ h O σ H _ rp fun vs xs b H1 h1 rp1 e1 rx => ?_
  refine hk ρ _ h1 O σ H1 _ rp1 fun zs ys b' H2 h2 rp2 e2 ry => ?_
  obtain ⟨⟨l1, l2⟩, l3, h3⟩ := h2
  refine ⟨by rw [rx.len]; exact l1, by rw [ry.len]; exact l2, ?_⟩
  exact sp_callX hE rp2 (show RBA K c O H2 (b || b') (gD xs ys) (gV vs zs) from hg (rx.up e2).or ry.or') l3 h3 fun v d H' hp rp' ex r => q v d _ H' hp rp' ((e1.trans e2).trans ex) r.dirt
theorem sim_callKX {n m : Nat} {dT : DF} {E : XK} {Er : DEr} {tk : TA} {dk : DA} (hE : ErOk K c H0 E Er) (hk : SimA K c H0 tk dk) : SimE K c H0 (tCallN 0 m (spD K n dT) (fun _ zs => zs) E tNil tk) (dCallNX c.bag n 0 m dT (fun _ ys => ys) dNil dk Er) :=
  sim_callNX hE (fun _ r => r) sim_nil hk
def dSMethX (bag : Option (Addr × Addr)) (C : Addr) (n : Nat) (dT : DF) (dd : List D) (do_ : DE) (da : DA) (Er : DEr) : DE := fun ρ P => do_ ρ fun x _ => isRaw C x ∧ da ρ fun xs b => (xs ++ dd).length = n ∧ dT bag (xs ++ dd) (fun z => P z (dirt z b)) Er
theorem sim_smethX {C : Addr} {n : Nat} {dT : DF} {dvs : List V} {dd : List D} {E : XK} {Er : DEr} {t : TA} {dts : DA} (hE : ErOk K c H0 E Er) (hd : ∀ H, RA K H dd dvs) (ho : SimE K c H0 ta da) (ha : SimA K c H0 t dts) :
    SimE K c H0 (fun σ H Q => ta σ H fun x H1 => x = .ref C ∧ t σ H1 fun vs H2 => spD K n dT (vs ++ dvs) H2 Q E) (dSMethX c.bag C n dT dd da dts Er) := by
  intro ρ P h O σ H Q rp q
  refine ho ρ _ h O σ H _ rp fun v x b H1 h1 rp1 e1 rx => ?_
  refine ⟨isRaw_of h1.1 rx.here, ?_⟩
  refine ha ρ _ h1.2 O σ H1 _ rp1 fun vs xs b' H2 h3 rp2 e2 rxs => ?_
  exact sp_callX (b := b') hE rp2 (show RBA K c O H2 b' (xs ++ dd) (vs ++ dvs) from RA.app rxs (hd _)) h3.1 h3.2 fun w z H' hp rp' ex rz => q w z _ H' hp rp' ((e1.trans e2).trans ex) rz.dirt
def dMethX (bag : Option (Addr × Addr)) (C : Addr) (m : Str) (n : Nat) (dT : DF) (dd : List D) (do_ : DE) (da : DA) (Er : DEr) : DE := fun ρ P => do_ ρ fun x b0 => asIns C x fun fs => fs.lookup m = none ∧ da ρ fun xs b => (x :: xs ++ dd).length = n ∧ dT bag (x :: xs ++ dd) (fun z => P z (dirt z (b0 || b))) Er
theorem sim_methX {C : Addr} {m : Str} {n : Nat} {dT : DF} {dvs : List V} {dd : List D} {E : XK} {Er : DEr} {t : TA} {dts : DA} (hE : ErOk K c H0 E Er) (hd : ∀ H, RA K H dd dvs) (ho : SimE K c H0 ta da) (ha : SimA K c H0 t dts) : SimE K c H0 (tMeth C m (spD K n dT) dvs E ta t) (dMethX c.bag C m n dT dd da dts Er) := by
  intro ρ P h O σ H Q rp q
  refine ho ρ _ h O σ H _ rp fun v x b H1 h1 rp1 e1 rx => ?_
  obtain ⟨fs, rfl, h2, a, dx, gs, rfl, g1, g2⟩ := rb_ins rx h1
  refine ⟨a, dx, gs, rfl, g1, RF.lookup_none g2 h2.1, ?_⟩
  refine ha ρ _ h2.2 O σ H1 _ rp1 fun vs xs b' H2 h3 rp2 e2 rxs => ?_
  refine sp_callX (b := b || b') hE rp2 (show RBA K c O H2 (b || b') (.ins C fs :: xs ++ dd) (.ref a :: vs ++ dvs) from ⟨_, _, rfl, (rx.up e2).or, RA.app rxs.or' (hd _)⟩) h3.1 h3.2 fun w z H' hp rp' ex rz => q w z _ H' hp rp' ((e1.trans e2).trans ex) rz.dirt
/-- C(..) of an own class whose __init__ may raise -/
theorem spI_X {C : Addr} {n : Nat} {dT : DI0} {E : XK} {Er : DEr} {O : List Addr} {H : Hp} {σ : L2.St} {ρ : DEnv} {b : Bool} {ds : List D} {vs : List V} {P : List (Str × D) → Prop} {Q : VK} {x dx : Addr} (hE : ErOk K c H0 E Er) (rp : Rep K c H0 O H σ ρ) (ra : RBA K c O H b ds vs) (hx : H x = none) (hdx : H dx = none) (hne : dx ≠ x) (hn : ds.length = n) (hd : dT c.bag ds P Er)
    (q : ∀ fs H', P fs → Rep K c H0 O H' σ ρ → Ex c.S H H' → RB K c O H' b (.ins C fs) (.ref x) → Q .non H') : spI K C n dT (.ref x :: vs) (upd (upd H dx (.own x)) x (.ins C dx [])) Q E := by
  cases b with
  | true => exact ⟨x, dx, vs, H, c, ds, P, Er, rfl, rfl, hx, hdx, hne, hn, rp.inv, ra, hd, fun fs H' hp i ex r => q fs H' hp (rp.up ex i) ex r, fun C d gs fs H' hf i ex hx rf => hE C d gs fs H' hf i (rp.ent.trans ex) hx rf⟩
  | false => exact ⟨x, dx, vs, H, rp.fm, ds, P, Er, rfl, rfl, hx, hdx, hne, hn, ⟨rp.inv, rp.liv⟩, ra, hd, fun fs H' hp i ex r => q fs H' hp (rp.up ex i.1) ex r, fun C d gs fs H' hf i ex hx rf => hE C d gs fs H' hf i.1 (rp.ent.trans ex) hx (RF.grow1 (but_le fun a z => List.mem_append_left _ z) rf)⟩
def dMakeX (bag : Option (Addr × Addr)) (C : Addr) (n : Nat) (dT : DI0) (dd : List D) (da : DA) (Er : DEr) : DE := fun ρ P => da ρ fun xs b => (xs ++ dd).length = n ∧ dT bag (xs ++ dd) (fun fs => P (.ins C fs) b) Er
theorem sim_makeX {C : Addr} {n : Nat} {dT : DI0} {dvs : List V} {dd : List D} {E : XK} {Er : DEr} {t : TA} {da : DA} (hE : ErOk K c H0 E Er) (hd : ∀ H, RA K H dd dvs) (ha : SimA K c H0 t da) : SimE K c H0 (tMake C (spI K C n dT) dvs E t) (dMakeX c.bag C n dT dd da Er) := by
  intro ρ P h O σ H Q rp q
  refine ha ρ _ h O σ H _ rp fun vs xs b H1 h1 rp1 e1 rx => ?_
  intro x dx hx hdx hne
  exact spI_X hE rp1 (show RBA K c O H1 b (xs ++ dd) (vs ++ dvs) from RA.app rx (hd _)) hx hdx hne h1.1 h1.2 fun fs H' hp rp' ex r => ⟨rfl, q _ _ _ H' hp rp' (e1.trans ex) r⟩
def dMakeKX (bag : Option (Addr × Addr)) (C : Addr) (n k m : Nat) (dT : DI0) (gD : List D → List D → List D) (da dk : DA) (Er : DEr) : DE := fun ρ P => da ρ fun xs b => dk ρ fun ys b' => (xs.length = k ∧ ys.length = m) ∧ (gD xs ys).length = n ∧ dT bag (gD xs ys) (fun fs => P (.ins C fs) (b || b')) Er
theorem sim_makeKX {C : Addr} {n k m : Nat} {dT : DI0} {gV gW : List V → List V → List V} {gD : List D → List D → List D} {E : XK} {Er : DEr} {t tk : TA} {da dk : DA} (hE : ErOk K c H0 E Er) (hgV : ∀ x vs zs, vs.length = k → zs.length = m → gV (.ref x :: vs) zs = .ref x :: gW vs zs)
    (hg : ∀ {H : Hp} {xs ys : List D} {vs zs : List V}, xs.length = k → ys.length = m → RA K H xs vs → RA K H ys zs → RA K H (gD xs ys) (gW vs zs))
    (ha : SimA K c H0 t da) (hk : SimA K c H0 tk dk) : SimE K c H0 (tMakeK C k m (spI K C n dT) gV E t tk) (dMakeKX c.bag C n k m dT gD da dk Er) := by
  intro ρ P h O σ H Q rp q
  refine ha ρ _ h O σ H _ rp fun vs xs b H1 h1 rp1 e1 rx => ?_
  refine hk ρ _ h1 O σ H1 _ rp1 fun zs ys b' H2 h2 rp2 e2 ry => ?_
  obtain ⟨⟨l1, l2⟩, l3, h3⟩ := h2
  refine ⟨by rw [rx.len]; exact l1, by rw [ry.len]; exact l2, fun x dx hx hdx hne => ?_⟩
  rw [hgV x vs zs (by rw [rx.len]; exact l1) (by rw [ry.len]; exact l2)]
  exact spI_X hE rp2 (show RBA K c O H2 (b || b') (gD xs ys) (gW vs zs) from hg l1 l2 (rx.up e2).or ry.or') hx hdx hne l3 h3 fun fs H' hp rp' ex r => ⟨rfl, q _ _ _ H' hp rp' ((e1.trans e2).trans ex) r⟩
end

/-! ### defs that raise -/
abbrev CXR (P : Program) (w : World) : CXT := L2.CX P w
theorem passF {X : Cx} : Passes (CXR X.prog X.w) X (fun _ _ _ => False) := fun _ _ _ _ _ _ _ h => by
  obtain ⟨_, _, _, _, _, _, _, _, _, _, _, _, z⟩ := h
  exact z.elim
section
variable {P : Program} {w : World} {K : PySem.W.Frag} {mg : Str → Option Value} {base : Heap}
/-- the wish of a def's body about errors -/
theorem tkX {N : List Str} {qual : Str} {scope : Scope} {f : Addr} {cd : Value} {A : Around} {outer : List Env} {s : Shared} {H : Hp} {E : XK} : Takes (cxOf (CXR P w) P w K mg base N qual scope f cd A outer s H E) (fun cls d _ H => E cls d H) := takes_of rfl rfl rfl rfl
theorem passX {N : List Str} {qual : Str} {scope : Scope} {f : Addr} {cd : Value} {A : Around} {outer : List Env} {s : Shared} {H : Hp} {E : XK} : Passes (CXR P w) (cxOf (CXR P w) P w K mg base N qual scope f cd A outer s H E) E := passes_call tkX fun _ _ _ _ h => h
theorem okX {x qual : Str} {st : Stmt} {f : Addr} {fd : FuncData} {N ps : List Str} {k n : Nat} {dT : DF} (F : Fun K x qual st f fd) (S : FnScope N ps (defScope st)) (hn : ps.length = n)
    (hbody : ∀ (cdv : Value) (A : Around) (outer : List Env) (s : Shared) (H : Hp) (E : XK) (c : Fm), Room k (A.deeper (PyProof.Rows.envOfC qual (defScope st) s.heap.objs.size f cdv)) →
      ∃ (ts : TS) (dsb : DEr → DS), PSs (cxOf (CXR P w) P w K mg base N qual (defScope st) f cdv A outer s H E) (defBody st) ts ∧ (∀ Er, ErOk K c H E Er → SimS K c H ts (dsb Er)) ∧ ∀ ds Pd Er, ds.length = n → dT c.bag ds Pd Er → dsb Er { nx := fun _ => Pd .non, rt := Pd } (dstart N.length ds)) :
    FnOk P w K mg base (CXR P w) (k + 1) f fd ps (spD K n dT) := by
  obtain ⟨oc, od, kV, doc, pm, an, cdv, ct, osl, rfl, lk, hcd⟩ := F.ex
  refine fn_of lk hcd S (fun vs H Q E h => ?_) fun A outer s H vs Q E hr h => ?_
  · obtain ⟨c, ds, _, _, hl, _, ra, _⟩ := h
    rw [ra.length, hl, hn]
  · obtain ⟨c, ds, Pd, Er, hl, i, ra, hd, q, qe⟩ := h
    obtain ⟨ts, dsb, hp, hs, hb⟩ := hbody cdv A outer s H E c hr
    refine ⟨ts, hp, ?_⟩
    refine hs Er (fun C d gs fs H' hf i' ex hx rf => qe C d gs fs H' hf i' ex hx rf) _ _ (hb ds Pd Er hl hd) [] _ H _ (but H c.M) (rep_start i ra) (by rw [List.append_nil]; exact Grow.refl _) ⟨fun ρ O σ H' h rp _ => q _ _ H' h rp.inv rp.ent rfl, fun v d H' h i ex r => q v d H' h i ex r, fun ρ O σ H' h => h.elim, fun ρ O σ H' h => h.elim⟩
theorem okIX {x qual : Str} {params : Arguments} {body : List Stmt} {scope : Scope} {dvs : List V} {kws : List (Str × V)} {f : Addr} {fd : FuncData} {N ps : List Str} {k n : Nat} {C : Addr} {dT : DI0}
    (F : FunD K x qual params body scope dvs kws f fd) (S : FnScope N ps scope) (hn : ps.length = n + 1) (hN : 0 < N.length)
    (hbody : ∀ (cdv : Value) (A : Around) (outer : List Env) (s : Shared) (H H1 : Hp) (E : XK) (c : Fm), Room k (A.deeper (PyProof.Rows.envOfC qual scope s.heap.objs.size f cdv)) →
      ∃ (ts : TS) (dsb : DEr → DS), PSs (cxOf (CXR P w) P w K mg base N qual scope f cdv A outer s H E) body ts ∧ (∀ Er, ErOk K c H1 E Er → SimS K c H1 ts (dsb Er)) ∧ ∀ ds Pd Er, ds.length = n → dT c.bag ds Pd Er → dsb Er { nx := fun ρ => objE C ρ[0]? Pd, rt := fun _ => False } (some (Ent.own (.ins C [])) :: dstart (N.length - 1) ds)) :
    FnOk P w K mg base (CXR P w) (k + 1) f fd ps (spI K C n dT) := by
  refine F.ok S (fun vs H Q E h => ?_) (fun cdv A outer s H vs Q E hr h => ?_)
  · obtain ⟨x, dx, ws, H1, c, ds, Pd, Er, rfl, rfl, hx, hdx, hne, hl, i, ra, hd, q, qe⟩ := h
    rw [List.length_cons, ra.length, hl, hn]
  · obtain ⟨x, dx, ws, H1, c, ds, Pd, Er, rfl, rfl, hx, hdx, hne, hl, i, ra, hd, q, qe⟩ := h
    obtain ⟨ts, dsb, hp, hs, hb⟩ := hbody cdv A outer s _ H1 E (c.at x) hr
    refine ⟨ts, hp, ?_⟩
    have rp := rep_startI (K := K) (C := C) i ra hx hdx hne hN
    refine hs Er (fun C' d gs fs H' hf i' ex hx' rf => qe C' d gs fs H' hf i' ex hx' rf) _ _ (hb ds Pd Er hl hd) [x] _ _ _ (but (upd (upd H1 dx (.own x)) x (.ins C dx [])) (c.M ++ [x])) rp (Grow.refl _) ⟨fun ρ O σ H' h rp' _ => ?_, fun v d H' h => h.elim, fun ρ O σ H' h => h.elim, fun ρ O σ H' h => h.elim⟩
    obtain ⟨fs, e0, h2⟩ := entObj (i := 0) h
    obtain ⟨p, o, hv, hp', hx', ow⟩ := rp'.own 0 _ e0
    have hp0 : p = x := by
      have := (rp'.me x C fs rfl e0).symm.trans hv
      injection this with this
      injection this with this
      injection this with this
      exact this.symm
    subst hp0
    exact q fs H' h2 rp'.inv rp'.ent (OwnR.R (but_of (rp'.notM hp') hx') (ow.grow (but_le fun a z => List.mem_append_left _ z)))
end
end QD

/-! QD26: lambdas are made. -/
namespace QD
open PySem L2 PyProof.Rows PySem.Spec
/-- a code object's table at P: what it tells are code objects of the name q -/
def TabQ (H : Hp) (P : Addr) (q : Str) : Prop := ∃ ps : Array Value, H P = some (.tbl ps) ∧ TriplesOk ps.toList ∧ ∀ (pos : Pos) (cv : Value), codeAmong pos ps.toList = some cv → ∃ c, cv = .ref c ∧ CodeAt H c q
theorem pin_tbl {o : Obj} {ps : Array Value} : pinO o ≠ .tbl ps := fun z => by
  have z' : HO.frz _ _ = HO.tbl ps := z
  cases z'
/-- a tracked thing is from now on this very object -/
theorem inv_pin {X : Cx} {pins : List (Addr × Obj)} {σ : L2.St} {H : Hp} {s : Shared} {a : Addr} {o : Obj} (I : L2.Inv X pins σ H s) (ho : s.heap.get? a = some o) (hn : H a = none ∨ ∃ φ, H a = some (.ext φ)) (h0 : X.s_0.heap.objs.size ≤ a) (nl : a ≠ X.env.locals)
    (nc : ∀ x c, X.env.cells.lookup x = some c → a ≠ c) (np : ∀ p ∈ X.pn ++ pins, p.1 ≠ a) : L2.Inv X pins σ (upd H a (pinO o)) s := by
  have no : ∀ {b : Addr} {u : HO}, H b = some u → (∀ φ, u ≠ .ext φ) → b ≠ a := fun {b u} e f z => by
    rw [z] at e
    rcases hn with hn | ⟨φ, hn⟩
    · rw [hn] at e; cases e
    · rw [hn] at e; exact f φ (Option.some.inj e).symm
  have nb : ∀ {b : Addr} {u : Obj}, X.s_0.heap.get? b = some u → b ≠ a := fun {b u} e => Nat.ne_of_lt (Nat.lt_of_lt_of_le (Heap.lt_size e) h0)
  refine { I with base := ?_, free := ?_, freeC := fun x c e => ?_, pin := fun p hp => ?_, hok := fun b u e => ?_ }
  · have tb : ∀ b ps, X.H_0 b = some (.tbl ps) → ∃ more, upd H a (pinO o) b = some (.tbl (ps ++ more)) := fun b ps e => by
      obtain ⟨more, e2⟩ := I.base.tbls b ps e
      exact ⟨more, by rw [upd_ne (no e2 fun φ z => by cases z)]; exact e2⟩
    exact ⟨I.base.keep, I.base.slot, fun b u e n hx => by rw [upd_ne (nb e)]; exact I.base.free b u e n hx, I.base.there, fun b xs e => by rw [upd_ne (no (I.base.tups b xs e) fun φ z => by cases z)]; exact I.base.tups b xs e, fun b u v e => by rw [upd_ne (no (I.base.frzs b u v e) fun φ z => by cases z)]; exact I.base.frzs b u v e, tb⟩
  · rw [upd_ne nl.symm]; exact I.free
  · rw [upd_ne (nc x c e).symm]; exact I.freeC x c e
  · obtain ⟨q1, q2, q3⟩ := I.pin p hp
    exact ⟨q1, by rw [upd_ne (np p hp)]; exact q2, q3⟩
  · by_cases hb : b = a
    · subst hb
      rw [upd_same] at e
      cases e
      exact ⟨ho, True.intro, ⟨o, ho⟩, fun _ _ _ _ => True.intro⟩
    · rw [upd_ne hb] at e
      exact (I.hok b u e).stay (fun c v _ q => q) (fun c q => by rw [upd_ne (no q fun φ z => by cases z)]; exact q) fun c xs q => by rw [upd_ne (no q fun φ z => by cases z)]; exact q
theorem inv_pin_new {X : Cx} {pins : List (Addr × Obj)} {σ : L2.St} {H : Hp} {s s' : Shared} {a : Addr} {o : Obj} (I0 : L2.Inv X pins σ H s) {H' : Hp} (I : L2.Inv X pins σ H' s') (h0 : s.heap.objs.size ≤ a) (ho : s'.heap.get? a = some o) (hn : H' a = none ∨ ∃ φ, H' a = some (.ext φ)) : L2.Inv X pins σ (upd H' a (pinO o)) s' :=
  inv_pin I ho hn (Nat.le_trans I0.sz h0) (Nat.ne_of_gt (Nat.lt_of_lt_of_le I0.lt h0)) (fun x c e => by
    obtain ⟨v, ob, e1, _⟩ := I0.cell x c e
    exact Nat.ne_of_gt (Nat.lt_of_lt_of_le (Heap.lt_size e1) h0)) fun p hp => Nat.ne_of_lt (Nat.lt_of_lt_of_le (Heap.lt_size (I0.pin p hp).1) h0)
/-- all but the table stays -/
def ButP (P : Addr) (H H' : Hp) : Prop := ∀ a o, H a = some o → a ≠ P → H' a = some o
theorem CodeAt.butP {P : Addr} {H H' : Hp} (e : ButP P H H') {c : Addr} {q : Str} {ps : Array Value} (hP : H P = some (.tbl ps)) (h : CodeAt H c q) : CodeAt H' c q := by
  obtain ⟨o, vs, t, h1, h2⟩ := h
  exact ⟨o, vs, t, e _ _ h1 fun z => pin_tbl (Option.some.inj ((h1.symm.trans (by rw [z])).trans hP)), h2⟩
theorem DflAt.butP {P : Addr} {H H' : Hp} (e : ButP P H H') {ps : Array Value} (hP : H P = some (.tbl ps)) {dV : Value} : ∀ {k : Option Int}, DflAt H dV k → DflAt H' dV k
  | none, h => h
  | some _, ⟨t, e1, h⟩ => ⟨t, e1, e _ _ h fun z => by rw [z, hP] at h; cases h⟩
section
variable {X : Cx} {pins : List (Addr × Obj)} {σ : L2.St} {H : Hp} {s : Shared}
/-- the function object is made; dV: its defaults -/
theorem lam_tail {c P : Addr} {params : Arguments} {body : Expr} {scope : Scope} {pos : Pos} {dV : Value} {dfl : Option Int} {E : Value → Shared → Prop} {Q : Value → Shared → Prop} (I : L2.Inv X pins σ H s) (TB : LamX.TabB X.base X.mg c P) (hcode : X.env.code = .ref c) (hT : TabQ H P (X.env.qual ++ "<lambda>"))
    (hfree : ∀ y ∈ scope.names, y.2 = .free → ∃ c, X.env.cells.lookup y.1 = some c) (hd : DflAt H dV dfl)
    (h : ∀ (f : Addr) (H1 : Hp) (s' : Shared), L2.Inv X pins σ H1 s' → ButP P H H1 → TabQ H1 P (X.env.qual ++ "<lambda>") → LamAt H1 ⟨X.env.qual ++ "<lambda>", params, body, scope, cloFrom X.env.cells scope.names [], dfl⟩ f → Q (.ref f) s') :
    wpAny (model X.prog X.w) X.A (makeTail "<lambda>" (X.env.qual ++ "<lambda>") params (.expr body) scope X.env dV .none none pos pos.line) Q E s := by
  obtain ⟨ps, hP, ht, ha⟩ := hT
  have bP : s.heap.BuiltinsAt X.mg P := TB.bm.keeps I.bk
  have hP' : s.heap.get? P = some (PySem.W.tabObj ps) := I.hok P _ hP
  have hcl := closure_ok hfree
  have hg := I.mod.glob.keeps I.bk
  cases hc : codeAmong pos ps.toList with
  | none =>
    refine PySem.W.kdv_makeTail (mg := X.mg) (c := c) (P := P) (ps := ps) hcl I.ok.glob hg hcode (TB.code.keeps I.bk) hP' ht hc TB.gP bP fun c' ctv doc h' tk hx hge hlt hrec htb => ?_
    obtain ⟨c2, oc, vs, t, e2, hoc, hdc, hv⟩ := hrec
    cases e2
    have hsz : s.heap.objs.size ≤ h'.objs.size := Nat.le_trans hge (Nat.le_of_lt hlt)
    have nC : H c' = none := I.hok.fresh hge
    have nF : H h'.objs.size = none := I.hok.fresh hsz
    obtain ⟨fo, efo⟩ : ∃ fo, fo = PySem.W.kdv_obj "<lambda>" (X.env.qual ++ "<lambda>") params (.expr body) scope (cloFrom X.env.cells scope.names []) dV doc ((X.mg "__name__").getD .none) c' ctv := ⟨_, rfl⟩
    rw [← efo]
    have I1 := LamX.inv_table (t' := tk) (q := X.env.qual ++ "<lambda>") (more := #[rawInt pos.line, rawInt pos.col, .ref c']) (h' := h'.push fo) I hP (fun b o hb e => Heap.get?_push_of_some _ (hx b o hb e)) (Heap.get?_push_of_some _ htb) hge ⟨oc, vs, t, Heap.get?_push_of_some _ hoc, hdc, hv⟩
    have I2 := inv_pin_new (a := c') (o := oc) I I1 hge (Heap.get?_push_of_some _ hoc) (.inr ⟨_, upd_same⟩)
    have n1 : h'.objs.size ≠ c' := Nat.ne_of_gt hlt
    have n2 : h'.objs.size ≠ P := Nat.ne_of_gt (Nat.lt_of_lt_of_le (Heap.lt_size hP') hsz)
    have I3 := inv_pin_new (a := h'.objs.size) (o := fo) I I2 hsz (Heap.get?_push_size _ (by rw [efo]; rfl)) (.inl (by rw [upd_ne n1, upd_ne n1, upd_ne n2]; exact nF))
    generalize hH1 : upd (upd (upd (upd H P (.tbl (ps ++ #[rawInt pos.line, rawInt pos.col, .ref c']))) c' (LamX.CodeO c' (X.env.qual ++ "<lambda>"))) c' (pinO oc)) h'.objs.size (pinO fo) = H1 at I3
    have bp : ButP P H H1 := fun a o e n => by
      rw [← hH1, upd_ne (ne_of_none e nF), upd_ne (ne_of_none e nC), upd_ne (ne_of_none e nC), upd_ne n]
      exact e
    have atP : H1 P = some (.tbl (ps ++ #[rawInt pos.line, rawInt pos.col, .ref c'])) := by
      rw [← hH1, upd_ne n2.symm, upd_ne (ne_of_none hP nC), upd_ne (ne_of_none hP nC), upd_same]
    have atC : CodeAt H1 c' (X.env.qual ++ "<lambda>") := ⟨oc, vs, t, by rw [← hH1, upd_ne n1.symm, upd_same], hdc, hv⟩
    refine h _ H1 _ I3 bp ⟨_, atP, ?_, fun p' cv hcv => ?_⟩ ⟨doc, _, c', ctv, dV, by rw [← hH1, upd_same, efo], atC, hd.butP bp hP⟩
    · rw [show (ps ++ #[rawInt pos.line, rawInt pos.col, .ref c']).toList = ps.toList ++ [rawInt pos.line, rawInt pos.col, .ref c'] by simp]
      exact PySem.TriplesOk_snoc _ _ _ _ ht
    · rw [show (ps ++ #[rawInt pos.line, rawInt pos.col, .ref c']).toList = ps.toList ++ [rawInt pos.line, rawInt pos.col, .ref c'] by simp] at hcv
      rcases LamX.among_app _ ht hcv with z | z
      · obtain ⟨c0, e1, e2⟩ := ha p' cv z
        exact ⟨c0, e1, e2.butP bp hP⟩
      · exact ⟨c', z, atC⟩
  | some cv =>
    obtain ⟨c', e, hco⟩ := ha pos cv hc
    subst e
    refine PySem.W.kdv_makeTailHit (mg := X.mg) (c := c) (P := P) (ps := ps) hcl I.ok.glob hg hcode (TB.code.keeps I.bk) hP' ht hc bP fun ctv doc h' tk hx hsz => ?_
    obtain ⟨fo, efo⟩ : ∃ fo, fo = PySem.W.kdv_obj "<lambda>" (X.env.qual ++ "<lambda>") params (.expr body) scope (cloFrom X.env.cells scope.names []) dV doc ((X.mg "__name__").getD .none) c' ctv := ⟨_, rfl⟩
    have I1 : L2.Inv X pins σ H { s with heap := h'.push fo, toks := tk } := I.kept fun b o e => Heap.get?_push_of_some _ (hx b o e)
    have nF : H h'.objs.size = none := I.hok.fresh hsz
    have I3 := inv_pin_new (a := h'.objs.size) (o := fo) I I1 hsz (Heap.get?_push_size _ (by rw [efo]; rfl)) (.inl nF)
    have gr : ∀ a o, H a = some o → upd H h'.objs.size (pinO fo) a = some o := fun a o e => by rw [upd_ne (ne_of_none e nF)]; exact e
    rw [efo] at I3
    rw [efo] at gr
    exact h _ _ _ I3 (fun a o e _ => gr a o e) ⟨ps, gr _ _ hP, ht, fun p' cv hcv => by
      obtain ⟨c0, e1, e2⟩ := ha p' cv hcv
      exact ⟨c0, e1, e2.grow gr⟩⟩ ⟨doc, _, c', ctv, dV, upd_same, hco.grow gr, hd.grow gr⟩
/-- lambda ..: body -/
def tLamE (P : Addr) (L : LamD) : TE := fun _ H Q => TabQ H P L.q ∧ ∀ f H1, ButP P H H1 → TabQ H1 P L.q → LamAt H1 L f → Q (.ref f) H1
abbrev lamOf (X : Cx) (params : Arguments) (body : Expr) (scope : Scope) (dfl : Option Int) : LamD := ⟨X.env.qual ++ "<lambda>", params, body, scope, cloFrom X.env.cells scope.names [], dfl⟩
theorem pe_lam {c P : Addr} {params : Arguments} {body : Expr} {scope : Scope} {pos : Pos} (TB : LamX.TabB X.base X.mg c P) (hcode : X.env.code = .ref c) (L : ∀ y ∈ scope.names, y.2 = .free → X.env.scope.names.lookup y.1 = some .cell ∨ X.env.scope.names.lookup y.1 = some .free) (hdef : defaultsOf params X.env = ([], [])) :
    PE X (.Lambda params body scope pos) (tLamE P (lamOf X params body scope none)) := by
  refine ⟨fun pins s σ H Q I h => ?_⟩
  refine PySem.W.kla_eval hdef ?_
  rw [makeFunction_eq]
  simp only [List.zip_nil_right, List.filterMap_nil, List.isEmpty_nil, if_true, pure_bind]
  exact lam_tail (dfl := none) I TB hcode h.1 (fun y hy e => (L y hy e).elim (fun k => I.ok.has _ (.inl k)) fun k => I.ok.has _ (.inr k)) rfl fun f H1 s' I1 b1 t1 l1 => ⟨.ref f, H1, I1, rfl, h.2 f H1 b1 t1 l1⟩
/-- lambda x=k: body -/
theorem pe_lamD {c P : Addr} {params : Arguments} {body e : Expr} {scope : Scope} {pos : Pos} {k : Int} (TB : LamX.TabB X.base X.mg c P) (hcode : X.env.code = .ref c) (L : ∀ y ∈ scope.names, y.2 = .free → X.env.scope.names.lookup y.1 = some .cell ∨ X.env.scope.names.lookup y.1 = some .free) (he : PE X e (tC (.int k)))
    (hdf : params.defaults = [e]) (hkw : params.kw_defaults = []) (hko : params.kwonlyargs = []) (hev : evalEach [e] X.env = [eval e X.env]) : PE X (.Lambda params body scope pos) (tLamE P (lamOf X params body scope (some k))) := by
  refine ⟨fun pins s σ H Q I h => ?_⟩
  refine PySem.W.kdv_lam (by rw [hdf]; rfl) hkw ?_
  rw [hdf]
  refine PySem.W.kdv_all1 (thn (he.run pins s σ H (fun v H1 => v = .int k ∧ H1 = H) I ⟨rfl, rfl⟩) fun v s1 ⟨x, H1, I1, rx, ex, eH⟩ => PySem.W.kdv_all0 ?_)
  subst ex eH
  obtain ⟨tk, rfl⟩ := rx
  rw [makeFunction_eq]
  simp only [hko, List.zip_nil_right, List.zip_nil_left, List.filterMap_nil, List.isEmpty_nil, List.isEmpty_cons, if_true, pure_bind, Bool.false_eq_true, if_false]
  refine wpAny_bind (wpAny_newTextTuple ?_)
  have nT : H1 s1.heap.objs.size = none := I1.hok.fresh (Nat.le_refl _)
  have I2 : L2.Inv X pins σ (upd H1 s1.heap.objs.size (.tup [.int k])) { s1 with heap := s1.heap.push (PySem.W.kdv_tup [.int k tk]) } :=
    I1.laid (t' := s1.toks) (a := s1.heap.objs.size) (fun b u e => Heap.get?_push_of_some _ e) (Nat.le_refl _) ⟨by show 1 ≤ sizeLine; rw [sizeLine_eq]; omega, [.int k tk], .cons ⟨tk, rfl⟩ .nil, ⟨_, Heap.get?_push_size _ rfl, rfl, _, rfl⟩⟩
  have gr : ∀ a o, H1 a = some o → upd H1 s1.heap.objs.size (.tup [.int k]) a = some o := fun a o e => by rw [upd_ne (ne_of_none e nT)]; exact e
  obtain ⟨⟨ps, hP, ht, ha⟩, h⟩ := h
  refine lam_tail (dfl := some k) I2 TB hcode ⟨ps, gr _ _ hP, ht, fun p' cv hcv => ?_⟩ (fun y hy e => (L y hy e).elim (fun k => I1.ok.has _ (.inl k)) fun k => I1.ok.has _ (.inr k)) ⟨_, rfl, upd_same⟩ fun f H2 s' I3 b1 t1 l1 => ⟨.ref f, H2, I3, rfl, h f H2 (fun a o e n => b1 a o (gr a o e) n) t1 l1⟩
  obtain ⟨c0, e1, e2⟩ := ha p' cv hcv
  exact ⟨c0, e1, e2.grow gr⟩
end
end QD

/-! QD27: the cells of a frame shown to a callee. -/
namespace QD
open PySem L2 PyProof.Rows PySem.Spec
/-- some addresses hold these very objects; they are not tracked -/
def plus (T : List (Addr × Obj)) (H : Hp) : Hp := fun a => match T.lookup a with | some o => some (pinO o) | none => H a
def minus (T : List (Addr × Obj)) (H : Hp) : Hp := fun a => match T.lookup a with | some _ => none | none => H a
section
variable {T : List (Addr × Obj)} {H H' : Hp} {a : Addr} {o : Obj}
theorem plus_in (h : T.lookup a = some o) : plus T H a = some (pinO o) := by unfold plus; rw [h]
theorem plus_out (h : T.lookup a = none) : plus T H a = H a := by unfold plus; rw [h]
theorem minus_in (h : T.lookup a = some o) : minus T H a = none := by unfold minus; rw [h]
theorem minus_out (h : T.lookup a = none) : minus T H a = H a := by unfold minus; rw [h]
theorem minus_some {u : HO} (h : minus T H a = some u) : T.lookup a = none ∧ H a = some u := by
  cases e : T.lookup a with
  | some o => rw [minus_in e] at h; cases h
  | none => rw [minus_out e] at h; exact ⟨rfl, h⟩
theorem minus_le : Grow (minus T H) H := fun a u e => (minus_some e).2
theorem minus_grow (g : Grow H H') : Grow (minus T H) (minus T H') := fun a u e => by
  obtain ⟨e1, e2⟩ := minus_some e
  rw [minus_out e1]
  exact g a u e2
/-- the addresses of T are not tracked in H -/
def Off (T : List (Addr × Obj)) (H : Hp) : Prop := ∀ a o, T.lookup a = some o → H a = none
/-- the addresses of T are pinned in H -/
def On (T : List (Addr × Obj)) (H : Hp) : Prop := ∀ a o, T.lookup a = some o → H a = some (pinO o)
theorem on_plus : On T (plus T H) := fun a o e => plus_in e
theorem off_minus : Off T (minus T H) := fun a o e => minus_in e
theorem plus_ge (h : Off T H) : Grow H (plus T H) := fun a u e => by
  cases q : T.lookup a with
  | some o => rw [h a o q] at e; cases e
  | none => rw [plus_out q]; exact e
theorem minus_plus (h : Off T H) : minus T (plus T H) = H := by
  funext a
  cases q : T.lookup a with
  | some o => rw [minus_in q, h a o q]
  | none => rw [minus_out q, plus_out q]
theorem plus_minus (h : On T H) : plus T (minus T H) = H := by
  funext a
  cases q : T.lookup a with
  | some o => rw [plus_in q, h a o q]
  | none => rw [plus_out q, minus_out q]
end
section
variable {P : Program} {w : World} {T : List (Addr × Obj)} {H : Hp} {h : Heap}
theorem pin_own {o : Obj} {x : Addr} : pinO o ≠ .own x := fun z => by
  have z' : HO.frz _ _ = HO.own x := z
  cases z'
theorem pin_tup {o : Obj} {xs : List V} : pinO o ≠ .tup xs := fun z => by
  have z' : HO.frz _ _ = HO.tup xs := z
  cases z'
theorem hok_pin {a : Addr} {o : Obj} (x : HOk P w H h) (e : H a = some (pinO o)) : h.get? a = some o := (show ObjOk P w H h a (.frz o (.ext fun _ => True)) from x a _ e).1
/-- fewer things are tracked -/
theorem hok_minus (x : HOk P w H h) (on : On T H) : HOk P w (minus T H) h := fun a u e => by
  obtain ⟨e1, e2⟩ := minus_some e
  have st : ∀ b v, H b = some v → (∀ o, v ≠ pinO o) → minus T H b = some v := fun b v q n => by
    cases z : T.lookup b with
    | none => rw [minus_out z]; exact q
    | some o => exact absurd (Option.some.inj (q.symm.trans (on b o z))) (n o)
  exact (x a u e2).stay (fun _ _ _ q => q) (fun b q => st b _ q fun o z => pin_own z.symm) fun b xs q => st b _ q fun o z => pin_tup z.symm
/-- more things are -/
theorem hok_plus (x : HOk P w H h) (off : Off T H) (at_ : ∀ a o, T.lookup a = some o → h.get? a = some o) : HOk P w (plus T H) h := fun a u e => by
  cases q : T.lookup a with
  | some o =>
    rw [plus_in q] at e
    cases e
    exact ⟨at_ a o q, True.intro, ⟨o, at_ a o q⟩, fun _ _ _ _ => True.intro⟩
  | none =>
    rw [plus_out q] at e
    exact (x a u e).stay (fun _ _ _ q => q) (fun b q => plus_ge off _ _ q) fun b xs q => plus_ge off _ _ q
theorem un_of_plus {fs : List Addr} {H' : Hp} {h' : Heap} (u : Un fs [] (plus T H) H' h h') (off : Off T H) (on : On T H') (at_ : ∀ a o, T.lookup a = some o → h.get? a = some o) (ok : HOk P w H' h') : Un fs [] H (minus T H') h h' where
  keep := fun b o q n hf hx => by
    cases z : T.lookup b with
    | some o' =>
      rw [at_ b o' z] at q
      cases q
      exact hok_pin ok (on b o z)
    | none => exact u.keep b o q (by rw [plus_out z]; exact n) hf hx
  slot := fun b o q n hf hx => by
    cases z : T.lookup b with
    | some o' =>
      rw [at_ b o' z] at q
      cases q
      exact ⟨o.slots, hok_pin ok (on b o z)⟩
    | none => exact u.slot b o q (by rw [plus_out z]; exact n) hf hx
  free := fun b o q n hx => by
    cases z : T.lookup b with
    | some o' => exact minus_in z
    | none => rw [minus_out z]; exact u.free b o q (by rw [plus_out z]; exact n) hx
  there := fun b o q hx => u.there b o q hx
  tups := fun b xs q => by
    cases z : T.lookup b with
    | some o' => rw [off b o' z] at q; cases q
    | none => rw [minus_out z]; exact u.tups b xs (by rw [plus_out z]; exact q)
  frzs := fun b o v q => by
    cases z : T.lookup b with
    | some o' => rw [off b o' z] at q; cases q
    | none => rw [minus_out z]; exact u.frzs b o v (by rw [plus_out z]; exact q)
  tbls := fun b ps q => by
    cases z : T.lookup b with
    | some o' => rw [off b o' z] at q; cases q
    | none =>
      obtain ⟨more, e⟩ := u.tbls b ps (by rw [plus_out z]; exact q)
      exact ⟨more, by rw [minus_out z]; exact e⟩
/-- behind a callee that saw fewer things -/
theorem un_of_minus {fs : List Addr} {H' : Hp} {h' : Heap} (u : Un fs [] (minus T H) H' h h') (on : On T H) (off : Off T H') : Un fs [] H (plus T H') h h' where
  keep := fun b o q n hf hx => by
    cases z : T.lookup b with
    | some o' => rw [on b o' z] at n; cases n
    | none => exact u.keep b o q (by rw [minus_out z]; exact n) hf hx
  slot := fun b o q n hf hx => by
    cases z : T.lookup b with
    | some o' => rw [on b o' z] at n; cases n
    | none => exact u.slot b o q (by rw [minus_out z]; exact n) hf hx
  free := fun b o q n hx => by
    cases z : T.lookup b with
    | some o' => rw [on b o' z] at n; cases n
    | none => rw [plus_out z]; exact u.free b o q (by rw [minus_out z]; exact n) hx
  there := fun b o q hx => u.there b o q hx
  tups := fun b xs q => by
    cases z : T.lookup b with
    | some o' => rw [on b o' z] at q; exact absurd (Option.some.inj q) pin_tup
    | none => rw [plus_out z]; exact u.tups b xs (by rw [minus_out z]; exact q)
  frzs := fun b o v q => by
    cases z : T.lookup b with
    | some o' => rw [on b o' z] at q; rw [plus_in z]; exact q
    | none => rw [plus_out z]; exact u.frzs b o v (by rw [minus_out z]; exact q)
  tbls := fun b ps q => by
    cases z : T.lookup b with
    | some o' => rw [on b o' z] at q; exact absurd (Option.some.inj q) pin_tbl
    | none =>
      obtain ⟨more, e⟩ := u.tbls b ps (by rw [minus_out z]; exact q)
      exact ⟨more, by rw [plus_out z]; exact e⟩
/-- its objects are kept there -/
theorem kept_minus {fs : List Addr} {H' : Hp} {h' : Heap} (u : Un fs [] (minus T H) H' h h') (nf : ∀ a o, T.lookup a = some o → a ∉ fs) (at_ : ∀ a o, T.lookup a = some o → h.get? a = some o) : (∀ a o, T.lookup a = some o → h'.get? a = some o) ∧ Off T H' :=
  ⟨fun a o z => u.keep a o (at_ a o z) (minus_in z) (nf a o z) (by simp), fun a o z => u.free a o (at_ a o z) (minus_in z) (by simp)⟩
theorem cr_minus {outer : List Env} {s s' : Shared} {Q : VK} {E : XK} {r : Result} (on : On T H) (nf : ∀ a o, T.lookup a = some o → a ∉ frs outer) (at_ : ∀ a o, T.lookup a = some o → s.heap.get? a = some o)
    (h : CR (L2.CX P w) outer P w (minus T H) s (fun v H' => Off T H' → Q v (plus T H')) (fun c d H' => Off T H' → E c d (plus T H')) r s') : CR (L2.CX P w) outer P w H s Q E r s' := by
  cases r with
  | ok fl =>
    cases fl with
    | ret u =>
      obtain ⟨v, H', os, bare, un, ok, rv, q⟩ := h
      obtain ⟨k1, k2⟩ := kept_minus un nf at_
      exact ⟨v, plus T H', os, bare, un_of_minus un on k2, hok_plus ok k2 k1, rv, q k2⟩
    | next => exact h
    | brk => exact h
    | cont => exact h
  | error e =>
    obtain ⟨a, B, H', cls, d, rfl, fl, ok, ub, na, os, bare, q⟩ := h
    have k1 : ∀ a o, T.lookup a = some o → B.get? a = some o := fun a o z => ub.keep a o (at_ a o z) (minus_in z) (nf a o z)
    have k2 : Off T H' := fun a o z => ub.free a o (at_ a o z) (minus_in z)
    refine ⟨a, B, plus T H', cls, d, rfl, fl, hok_plus ok k2 k1, ?_, ?_, os, bare, q k2⟩
    · exact {
        keep := fun b o q n hf => by
          cases z : T.lookup b with
          | some o' => rw [on b o' z] at n; cases n
          | none => exact ub.keep b o q (by rw [minus_out z]; exact n) hf
        slot := ub.slot
        free := fun b o q n => by
          cases z : T.lookup b with
          | some o' => rw [on b o' z] at n; cases n
          | none => rw [plus_out z]; exact ub.free b o q (by rw [minus_out z]; exact n)
        there := ub.there
        tups := fun b xs q => by
          cases z : T.lookup b with
          | some o' => rw [on b o' z] at q; exact absurd (Option.some.inj q) pin_tup
          | none => rw [plus_out z]; exact ub.tups b xs (by rw [minus_out z]; exact q)
        frzs := fun b o v q => by
          cases z : T.lookup b with
          | some o' => rw [on b o' z] at q; rw [plus_in z]; exact q
          | none => rw [plus_out z]; exact ub.frzs b o v (by rw [minus_out z]; exact q)
        tbls := fun b ps q => by
          cases z : T.lookup b with
          | some o' => rw [on b o' z] at q; exact absurd (Option.some.inj q) pin_tbl
          | none =>
            obtain ⟨more, e⟩ := ub.tbls b ps (by rw [minus_out z]; exact q)
            exact ⟨more, by rw [plus_out z]; exact e⟩ }
    · cases z : T.lookup a with
      | some o =>
        have := fl.2.1
        rw [k1 a o z] at this
        cases this
      | none => rw [plus_out z]; exact na
end

/-! ### the cells of a frame -/
/-- T: the cells of X's frame, what stands in the slots among them -/
structure CellT (X : Cx) (σ : L2.St) (T : List (Addr × Obj)) : Prop where
  only : ∀ a o, T.lookup a = some o → ∃ x, X.env.cells.lookup x = some a
  all : ∀ x c, X.env.cells.lookup x = some c → ∃ o v, T.lookup c = some o ∧ o.data = .cell v
  has : ∀ (i : Nat) (x : Str) (v : V) (c : Addr), X.N[i]? = some x → σ[i]? = some (some v) → (X.env.kindOf x = some .cell ∨ X.env.kindOf x = some .free) → X.env.cells.lookup x = some c → ∃ o u, T.lookup c = some o ∧ o.data = .cell (some u) ∧ RelV v u
  inj : ∀ x y c, X.env.cells.lookup x = some c → X.env.cells.lookup y = some c → x = y
  cel : ∀ x, (X.env.kindOf x = some .cell ∨ X.env.kindOf x = some .free) → ∃ c, X.env.cells.lookup x = some c
  len : σ.length = X.N.length
theorem cells_at {h : Heap} : ∀ (cs : List (Str × Addr)), (∀ p ∈ cs, ∃ v, h.IsCell p.2 v) → ∃ T : List (Addr × Obj), (∀ a o, T.lookup a = some o → h.get? a = some o ∧ ∃ x, (x, a) ∈ cs) ∧ ∀ p ∈ cs, ∃ o, T.lookup p.2 = some o
  | [], _ => ⟨[], fun a o e => by simp at e, fun p hp => by simp at hp⟩
  | p :: cs, h1 => by
    obtain ⟨T, a1, a2⟩ := cells_at cs fun q hq => h1 q (List.mem_cons_of_mem _ hq)
    obtain ⟨v, o, ho, _⟩ := h1 p List.mem_cons_self
    have at_ : ∀ a u, ((p.2, o) :: T).lookup a = some u → h.get? a = some u ∧ ∃ x, (x, a) ∈ p :: cs := fun a u e => by
      rw [List.lookup_cons] at e
      by_cases q : a = p.2
      · have : (a == p.2) = true := by simp [q]
        rw [this] at e
        cases e
        rw [q]
        exact ⟨ho, p.1, List.mem_cons_self⟩
      · have : (a == p.2) = false := by simp [q]
        rw [this] at e
        obtain ⟨b1, x, b2⟩ := a1 a u e
        exact ⟨b1, x, List.mem_cons_of_mem _ b2⟩
    refine ⟨(p.2, o) :: T, at_, fun q hq => ?_⟩
    rw [List.lookup_cons]
    by_cases z : q.2 = p.2
    · exact ⟨o, by simp [z]⟩
    · have : (q.2 == p.2) = false := by simp [z]
      rw [this]
      rcases List.mem_cons.mp hq with rfl | hq
      · exact absurd rfl z
      · exact a2 q hq
end QD

/-! QD28: a call that is shown the cells; lambdas run. -/
namespace QD
open PySem L2 PyProof.Rows PySem.Spec
section
variable {X : Cx} {pins : List (Addr × Obj)} {σ : L2.St} {H : Hp} {s : Shared}
structure CellsAt (X : Cx) (H : Hp) (s : Shared) (T : List (Addr × Obj)) : Prop where
  at_ : ∀ a o, T.lookup a = some o → s.heap.get? a = some o
  off : Off T H
  nfr : ∀ a o, T.lookup a = some o → a ∉ frs X.stack
  nb : ∀ a o, T.lookup a = some o → X.base.get? a = none
theorem cells_of (I : L2.Inv X pins σ H s) (hfn : ∀ x, X.fn x = true) : ∃ T, CellT X σ T ∧ CellsAt X H s T := by
  obtain ⟨cs, hcs⟩ : ∃ cs : List (Str × Addr), cs = (X.env.cells.map (·.1)).filterMap fun x => (X.env.cells.lookup x).map fun c => (x, c) := ⟨_, rfl⟩
  have m1 : ∀ p, p ∈ cs → X.env.cells.lookup p.1 = some p.2 := fun p hp => by
    rw [hcs, List.mem_filterMap] at hp
    obtain ⟨x, _, e⟩ := hp
    obtain ⟨c, e1, e2⟩ := Option.map_eq_some_iff.mp e
    subst e2
    exact e1
  have m2 : ∀ x c, X.env.cells.lookup x = some c → (x, c) ∈ cs := fun x c e => by
    rw [hcs, List.mem_filterMap]
    exact ⟨x, List.mem_map.mpr ⟨(x, c), PySem.mem_of_lookup e, rfl⟩, by rw [e]; rfl⟩
  obtain ⟨T, a1, a2⟩ := cells_at (h := s.heap) cs fun p hp => I.cell _ _ (m1 p hp)
  have ne0 : ∀ a o, T.lookup a = some o → ∃ x, X.env.cells.lookup x = some a := fun a o e => by
    obtain ⟨_, x, hx⟩ := a1 a o e
    exact ⟨x, m1 _ hx⟩
  refine ⟨T, ⟨ne0, fun x c e => ?_, fun i x v c h1 h2 h3 h4 => ?_, I.ok.inj, I.ok.has, I.len⟩, ⟨fun a o e => (a1 a o e).1, fun a o e => ?_, fun a o e hm => ?_, fun a o e => ?_⟩⟩
  · obtain ⟨o, ho⟩ := a2 _ (m2 x c e)
    obtain ⟨v, o', ho', hd⟩ := I.cell x c e
    have := (a1 _ _ ho).1
    rw [this] at ho'
    cases ho'
    exact ⟨o, v, ho, hd⟩
  · obtain ⟨o, ho⟩ := a2 _ (m2 x c h4)
    obtain ⟨m, hns, hl⟩ := I.loc
    have hv : Vis X.env.scope x := h3.elim (fun k => .inr (.inl k)) fun k => .inr (.inr k)
    obtain ⟨u, ru, lu⟩ := hl i x v h1 h2 hv
    rcases lu with ⟨k, _⟩ | ⟨_, c', e', o', ho', hd⟩
    · rcases h3 with h3 | h3 <;> rw [k] at h3 <;> cases h3
    · rw [h4] at e'
      cases e'
      have := (a1 _ _ ho).1
      rw [this] at ho'
      cases ho'
      exact ⟨o, u, ho, hd, ru⟩
  · obtain ⟨x, hx⟩ := ne0 a o e
    exact I.freeC x a hx
  · obtain ⟨x, hx⟩ := ne0 a o e
    rcases List.mem_cons.mp (I.stkSub _ hm) with z | z
    · exact I.cne x a hx z
    · obtain ⟨_, o', ho', _⟩ := I.ok.funs.mem z
      exact absurd (Nat.lt_of_lt_of_le (Heap.lt_size ho') (I.ok.cab x a (hfn x) hx)) (Nat.lt_irrefl _)
  · obtain ⟨x, hx⟩ := ne0 a o e
    cases z : X.base.get? a with
    | none => rfl
    | some o' => exact absurd (Nat.lt_of_lt_of_le (Nat.lt_of_lt_of_le (Heap.lt_size z) I.ok.bsz) (I.ok.cab x a (hfn x) hx)) (Nat.lt_irrefl _)
theorem env0_plus (I : L2.Inv X pins σ H s) {T : List (Addr × Obj)} (C : CellsAt X H s T) : Env0 X.prog X.w X.K X.mg X.base X.A X.stack s (plus T H) := by
  have e := I.env0
  have out : ∀ b, (∀ o, T.lookup b ≠ some o) → plus T H b = H b := fun b h => by
    cases z : T.lookup b with
    | some o => exact absurd z (h o)
    | none => exact plus_out z
  exact ⟨e.frames, e.mod, fun b o q => ⟨(e.bs b o q).1, by rw [out b fun o' z => by rw [C.nb b o' z] at q; cases q]; exact (e.bs b o q).2⟩, e.bsz, e.funs, fun b hb => by rw [out b fun o' z => C.nfr b o' z hb]; exact e.frf b hb, hok_plus e.hok C.off C.at_, e.bare⟩
/-- f(..), where f is shown the cells of this frame -/
def tCallP (X : Cx) (sp : Sp) (E : XK) (t : TA) : TE := fun σ H Q => t σ H fun vs H1 => ∀ T, CellT X σ T → Off T H1 → sp vs (plus T H1) (fun v H' => On T H' ∧ Q v (minus T H')) E
theorem pe_callP {k : Nat} {f : Addr} {fd : FuncData} {ps : List Str} {sp : Sp} {E : XK} {x : Str} {p pos : Pos} {e : Expr} {es : List Expr} {t : TA} (F : FnOk X.prog X.w X.K X.mg X.base CX0 k f fd ps sp) (hr : Room k X.A) (hg : Gl X x) (hm : X.mg x = some (.ref f)) (hk : PySem.W.keepIn X.K (.ref f) = true) (hb : Binds X.K fd ps [])
    (hfn : ∀ x, X.fn x = true) (ha : PA X (e :: es) t) (hdb : (x == ("__debug__" : Str)) = false := by decide) (he : starEach (e :: es) X.env = (false, eval e X.env) :: starEach es X.env := by rfl) (hpl : (backTo pos (starEach es X.env)).any (·.1) = false := by rfl) :
    PE X (.Call (.Name x p) (e :: es) [] pos) (tCallP X sp E t) := by
  refine ⟨fun pins s σ H Q I h => ?_⟩
  refine wpAny_Call_Name_kw (ld_glob I hg hm ?_ hdb)
  refine PySem.W.callWith_K (h₀ := X.base) I.ok.mod.kin hk (thn (ha.run pos pins s σ H _ I h) fun us s1 ⟨vs, H1, I1, r, q⟩ => ⟨I1.kIn, ?_⟩) he hpl
  obtain ⟨T, ct, ca⟩ := cells_of I1 hfn
  have q := q T ct ca.off
  have hl : us.length = ps.length := by rw [← r.length]; exact F.len _ _ _ _ q
  have hb2 := hb s1 us I1.kIn (by simpa using hl)
  rw [List.append_nil] at hb2
  refine wpAny_call (codeAny_mono (F.run X.A X.stack s1 (plus T H1) ⟨us, []⟩ us vs _ E hr (env0_plus I1 ca) hb2 r q) fun r' s' hq => ?_)
  cases r' with
  | error e => exact (show False from hq).elim
  | ok fl =>
    cases fl with
    | ret u =>
      obtain ⟨v, H', os, bare, un, ok, rv, on, q2⟩ := hq
      exact I1.after ⟨v, minus T H', os, bare, un_of_plus un ca.off on ca.at_ ok, hok_minus ok on, rv, q2⟩
    | next => exact False.elim hq
    | brk => exact False.elim hq
    | cont => exact False.elim hq
end

/-! ### thunks -/
/-- a lambda that is called: what its result, its error may be -/
abbrev DBeh := (D → Prop) → DEr → Prop
def ThL (P : Program) (w : World) (K : PySem.W.Frag) (mg : Str → Option Value) (base : Heap) (kk : Nat) (c : Fm) (Hs : Hp) (L : LamD) (bD : DBeh) : Prop := ∀ (f : Addr) (A : Around) (outer : List Env) (s : Shared) (H : Hp) (Q : VK) (E : XK) (Pd : D → Prop) (Er : DEr), Room kk A → Env0 P w K mg base A outer s H → c.I H → Ex c.S Hs H →
  LamAt H L f → bD Pd Er → (∀ v d H', Pd d → c.I H' → Ex c.S H H' → R K (but H' c.M) d v → Q v H') → ErOk K c H E Er → codeAny (model P w) A (.call (.ref f) ⟨[], []⟩) (CR (L2.CX P w) outer P w H s Q E) s
/-- the names of a lambda's body -/
structure LamS (N : List Str) (sc scope : Scope) : Prop where
  kind : scope.kind = .function
  co : scope.isCoroutine = false
  gen : scope.isGenerator = false
  nocell : ∀ y ∈ scope.names, y.2 ≠ .cell
  loc : ∀ y ∈ scope.names, y.2 = .local → y.1 ∉ N
  free : ∀ y ∈ scope.names, y.2 = .free → sc.names.lookup y.1 = some .cell ∨ sc.names.lookup y.1 = some .free
def lamSB (N : List Str) (sc scope : Scope) : Bool :=
  decide (scope.kind = .function) && !scope.isCoroutine && !scope.isGenerator && scope.names.all fun y => !decide (y.2 = .cell) && (!decide (y.2 = .local) || !decide (y.1 ∈ N)) && (!decide (y.2 = .free) || decide (sc.names.lookup y.1 = some .cell) || decide (sc.names.lookup y.1 = some .free))
theorem lamS_by {N : List Str} {sc scope : Scope} (h : lamSB N sc scope = true) : LamS N sc scope := by
  unfold lamSB at h
  simp only [Bool.and_eq_true, Bool.or_eq_true, Bool.not_eq_true', decide_eq_true_eq, decide_eq_false_iff_not, List.all_eq_true] at h
  obtain ⟨⟨⟨h1, h2⟩, h3⟩, h4⟩ := h
  refine ⟨h1, h2, h3, fun y hy => (h4 y hy).1.1, fun y hy e => (h4 y hy).1.2.resolve_left fun z => z e, fun y hy e => ?_⟩
  rcases (h4 y hy).2 with (z | z) | z
  · exact absurd e z
  · exact .inl z
  · exact .inr z
/-- the names of a def with some of them hidden -/
def MaskN (N N' : List Str) (sc : Scope) : Prop := N'.length = N.length ∧ ∀ (i : Nat) (y : Str), N'[i]? = some y → Vis sc y → N[i]? = some y
theorem mask_self {N : List Str} {sc : Scope} : MaskN N N sc := ⟨rfl, fun _ _ h _ => h⟩
def maskB (N N' : List Str) (sc : Scope) : Bool := decide (N'.length = N.length) && (N'.zip N).all fun p => decide (p.1 = p.2) || decide (sc.names.lookup p.1 = none)
theorem mask_by {N N' : List Str} {sc : Scope} (h : maskB N N' sc = true) : MaskN N N' sc := by
  unfold maskB at h
  simp only [Bool.and_eq_true, Bool.or_eq_true, decide_eq_true_eq, List.all_eq_true] at h
  refine ⟨h.1, fun i y e v => ?_⟩
  have hi : i < N.length := by
    rw [← h.1]
    exact (List.getElem?_eq_some_iff.mp e).1
  have m : (y, N[i]) ∈ N'.zip N := by
    have : (N'.zip N)[i]? = some (y, N[i]) := by rw [List.getElem?_zip_eq_some]; exact ⟨e, List.getElem?_eq_getElem hi⟩
    exact List.mem_of_getElem? this
  rcases h.2 _ m with k | k
  · rw [List.getElem?_eq_getElem hi]
    exact congrArg some (Eq.symm k)
  · rcases v with v | v | v <;> rw [k] at v <;> cases v
/-- the context of a lambda's body -/
def lamCy (X : Cx) (A : Around) (outer : List Env) (s : Shared) (H : Hp) (E : XK) (L : LamD) (f c' : Addr) (N' : List Str) : Cx where
  prog := X.prog
  w := X.w
  K := X.K
  mg := X.mg
  base := X.base
  A := A.deeper (PySem.W.envX L.q L.scope s.heap.objs.size f (.ref c') L.clo)
  N := N'
  s_0 := s
  H_0 := H
  env := PySem.W.envX L.q L.scope s.heap.objs.size f (.ref c') L.clo
  outer := outer
  stack := PySem.W.envX L.q L.scope s.heap.objs.size f (.ref c') L.clo :: outer
  ex := []
  fn := fun _ => false
  calm := true
  pn := []
  xe := fun e s' => wpAny (model X.prog X.w) (A.deeper (PySem.W.envX L.q L.scope s.heap.objs.size f (.ref c') L.clo)) (leaving (PySem.W.envX L.q L.scope s.heap.objs.size f (.ref c') L.clo) e) (fun _ s'' => L2.CX X.prog X.w outer H s E e s'') (fun e' s'' => L2.CX X.prog X.w outer H s E e' s'') s'
theorem passL {X : Cx} {A : Around} {outer : List Env} {s : Shared} {H : Hp} {E : XK} {L : LamD} {f c' : Addr} {N' : List Str} : Passes (CXR X.prog X.w) (lamCy X A outer s H E L f c' N') E := passes_call (W := fun cls d _ H => E cls d H) (takes_of rfl rfl rfl rfl) fun _ _ _ _ h => h
end QD

/-! QD29: what a lambda's call gives, by data. -/
namespace QD
open PySem L2 PyProof.Rows PySem.Spec
/-- the frame of a callee that is shown the cells -/
def Fm.pinned (c : Fm) (T : List (Addr × Obj)) : Fm where
  M := c.M
  S := c.S
  I := fun H => c.I (minus T H) ∧ On T H
  bag := c.bag
  sub := c.sub
  st := fun H H' g h => ⟨c.st _ _ (minus_grow g) h.1, fun a o e => g _ _ (h.2 a o e)⟩
  sd := fun H h a ha gs z => by
    cases q : T.lookup a with
    | some o =>
      rw [h.2 a o q] at z
      have z' : HO.frz _ _ = HO.xd gs := Option.some.inj z
      cases z'
    | none => exact c.sd _ h.1 a ha gs (by rw [minus_out q]; exact z)
  kd := fun H h a ha => (c.kd _ h.1 a ha).keep fun o q => minus_le a o q
  bS := c.bS
  bI := fun b e H h => (c.bI b e _ h.1).grow minus_le
  bP := fun b e H H' h k z => by
    obtain ⟨ns, i1, i2, i3, i4, h1, h2, h3⟩ := c.bI b e _ h.1
    obtain ⟨n1, _⟩ := minus_some h1
    obtain ⟨m2, h2⟩ := but_some h2
    obtain ⟨n2, _⟩ := minus_some h2
    refine ⟨c.bP b e (minus T H) (minus T H') h.1 (fun a o q n => ?_) ?_, fun a o q => k a _ (h.2 a o q) fun z => by rw [z, n1] at q; cases q⟩
    · obtain ⟨q1, q2⟩ := minus_some q
      rw [minus_out q1]
      exact k a o q2 n
    · obtain ⟨ns, j1, j2, j3, j4, g1, g2, g3⟩ := z
      obtain ⟨m3, g2⟩ := but_some g2
      exact ⟨ns, j1, j2, j3, j4, by rw [minus_out n1]; exact g1, but_of m3 (by rw [minus_out n2]; exact g2), g3⟩
  mu := fun H H' p h k n m f => ⟨c.mu (minus T H) (minus T H') p h.1 (fun a o q ne => by
      obtain ⟨q1, q2⟩ := minus_some q
      rw [minus_out q1]
      exact k a o q2 ne) n m (fun o u z => f o u (minus_le _ _ z)), fun a o q => k a _ (h.2 a o q) fun z => by
      rw [← z] at f
      exact f o _ (h.2 a o q)⟩
/-- slots without own things -/
def strip (ρ : DEnv) : DEnv := ρ.map fun e => match e with | some (.val d) => some (.val d) | _ => none
theorem strip_get {ρ : DEnv} {i : Nat} {e : Ent} (h : (strip ρ)[i]? = some (some e)) : ∃ d, e = .val d ∧ ρ[i]? = some (some (.val d)) := by
  unfold strip at h
  rw [List.getElem?_map] at h
  obtain ⟨x, e1, e2⟩ := Option.map_eq_some_iff.mp h
  split at e2
  · rename_i d
    cases e2
    exact ⟨d, rfl, e1⟩
  · cases e2
abbrev DEX := DEr → DE
section
variable {X : Cx} {σ : L2.St} {T : List (Addr × Obj)}
theorem lam_th {kk : Nat} {cw : Fm} {H : Hp} {ρ : DEnv} {L : LamD} {de : DEX} (CT : CellT X σ T)
    {N' : List Str} (S : LamS N' X.env.scope L.scope) (hN : MaskN X.N N' L.scope) (hclo : L.clo = cloFrom X.env.cells L.scope.names []) (hρ : σ.length = ρ.length) (off : Off T H) (hval : ∀ (i : Nat) (d : D), ρ[i]? = some (some (Ent.val d)) → ∃ v, σ[i]? = some (some v) ∧ R X.K (but H cw.M) d v)
    (hbind : ∀ (s : Shared) (H : Hp) (doc pm cv ct dV : Value), HOk X.prog X.w H s.heap → DflAt H dV L.dfl → ∃ binds, BindsTo s (PySem.W.kdv_fn "<lambda>" L.q L.params (.expr L.body) L.scope L.clo dV doc pm cv ct) ⟨[], []⟩ binds ∧ ∀ y ∈ binds, L.scope.names.lookup y.1 = some .local)
    (hbody : ∀ (A : Around) (outer : List Env) (s : Shared) (H : Hp) (E : XK) (f c' : Addr), Room kk (A.deeper (PySem.W.envX L.q L.scope s.heap.objs.size f (.ref c') L.clo)) → ∃ te, PE (lamCy X A outer s H E L f c' N') L.body te ∧ ∀ Er, ErOk X.K cw H E Er → SimE X.K cw H te (de Er)) :
    ThL X.prog X.w X.K X.mg X.base (kk + 1) (cw.pinned T) (plus T H) L (fun Pd Er => de Er (strip ρ) fun d _ => Pd d) := by
  intro f A outer s H1 Q E Pd Er hr e0 i1 ex1 hL hbD hq hE
  obtain ⟨doc, pm, c', ct, dV, hf, hcode, hdf⟩ := hL
  have of1 := hok_pin e0.hok hf
  obtain ⟨oc, vs, t, hoc, hdc, hvc⟩ := hcode
  have oc1 := hok_pin e0.hok hoc
  have at_ : ∀ a o, T.lookup a = some o → s.heap.get? a = some o := fun a o e => hok_pin e0.hok (i1.2 a o e)
  have nfr : ∀ a o, T.lookup a = some o → a ∉ frs outer := fun a o e hm => by
    have := e0.frf a hm
    rw [i1.2 a o e] at this
    cases this
  have lim : s.heap.NoLimit := e0.mod.nolimit.keeps fun b o e => (e0.bs b o e).1
  obtain ⟨binds, hb1, hb2⟩ := hbind s H1 doc pm (.ref c') ct dV e0.hok hdf
  refine codeAny_mono (?_ : codeAny _ A _ (CR (L2.CX X.prog X.w) outer X.prog X.w (minus T H1) s (fun v H' => Off T H' → Q v (plus T H')) (fun c d H' => Off T H' → E c d (plus T H'))) s) fun r s' h => cr_minus i1.2 nfr at_ h
  refine PySem.W.kla_callFunE hr.depth of1 rfl S.co S.gen rfl ⟨c', oc, vs, t, rfl, oc1, hdc, hvc⟩ (hb1 _ _ _ _ ?_)
  refine wpAny_newFunctionEnv S.nocell hb2 (fun h₁ hns hsb => ⟨lim.fresh _ hsb, ?_⟩) S.kind
  show codeAny _ _ (.expr L.body (PySem.W.envX L.q L.scope s.heap.objs.size f (.ref c') L.clo)) _ _
  have kp : ∀ b o, s.heap.get? b = some o → h₁.get? b = some o := fun b o e => hsb.extBut b o (Nat.ne_of_lt (Heap.lt_size e)) (Heap.get?_push_of_some _ e)
  obtain ⟨E', hE'⟩ : ∃ E' : XK, E' = fun c d H' => Off T H' → E c d (plus T H') := ⟨_, rfl⟩
  have hfree : ∀ y ∈ L.scope.names, y.2 = .free → ∃ c, X.env.cells.lookup y.1 = some c := fun y hy e => CT.cel _ (S.free y hy e)
  have cm : ∀ {y c}, L.clo.lookup y = some c → X.env.cells.lookup y = some c := fun {y c} e => by
    rw [hclo] at e
    rcases cloFrom_mem (PySem.mem_of_lookup e) with hm | ⟨g1, g2⟩
    · cases hm
    · obtain ⟨c1, hc⟩ := hfree _ g1 rfl
      have hc : X.env.cells.lookup y = some c1 := hc
      have e2 : c = c1 := by rw [g2, hc] <;> rfl
      rw [e2]
      exact hc
  have look : ∀ {y}, L.scope.names.lookup y = some .free → ∃ c, L.clo.lookup y = some c := fun {y} hl => by
    rw [hclo]
    exact mem_lookup (cloFrom_has (cells := X.env.cells) (acc := []) (PySem.mem_of_lookup hl : (y, NameKind.free) ∈ L.scope.names))
  have inT : ∀ {y c}, X.env.cells.lookup y = some c → ∃ o v, T.lookup c = some o ∧ o.data = .cell v := fun {y c} e => CT.all y c e
  have noA : ∀ b : Addr, b ∉ (lamCy X A outer s (minus T H1) E' L f c' N').ex := fun b z => absurd (show b ∈ ([] : List Addr) from z) (by simp)
  have om : ∀ b u, minus T H1 b = some u → H1 b = some u := fun b u => minus_le b u
  have nn : ∀ b, H1 b = none → minus T H1 b = none := fun b e => by
    cases z : T.lookup b with
    | some o => exact minus_in z
    | none => rw [minus_out z]; exact e
  have J : L2.Inv (lamCy X A outer s (minus T H1) E' L f c' N') [] σ (minus T H1) { s with heap := h₁, toks := s.toks + binds.length } := by
    refine ⟨⟨e0.mod, S.kind, rfl, rfl, Nat.le_refl _, fun y z c e1 e2 => CT.inj y z c (cm e1) (cm e2), fun y hy => ?_, fun y c z _ => ?_, fun _ => hr.hd, Around.frames_deeper e0.frames, .inr ⟨rfl, rfl⟩, fun b z => absurd z (noA b), fun b o z => ⟨(e0.bs b o z).1, nn _ (e0.bs b o z).2⟩, e0.bsz, fun b _ _ => noA b, fun b z => absurd z (noA b), e0.funs, fun b hb => nn _ (e0.frf b hb)⟩,
      rfl, e0.bare, Un.kept kp, ⟨_, hns, fun i y v e1 e2 e3 => ?_⟩, fun y c e => ?_, nn _ (e0.hok.fresh (Nat.le_refl _)), fun y c e => ?_, fun q hq => absurd (show q ∈ ([] : List (Addr × Obj)) ++ [] from hq) (by simp), (hok_minus e0.hok i1.2).kept kp, CT.len.trans hN.1.symm⟩
    · have hy : L.scope.names.lookup y = some .cell ∨ L.scope.names.lookup y = some .free := hy
      rcases hy with hy | hy
      · exact absurd rfl (S.nocell _ (PySem.mem_of_lookup hy))
      · exact look hy
    · have z : false = true := z
      cases z
    · have e3 : Vis L.scope y := e3
      have e1 : N'[i]? = some y := e1
      have e1' : X.N[i]? = some y := hN.2 i y e1 e3
      rcases e3 with k | k | k
      · exact absurd (List.mem_of_getElem? e1) (S.loc _ (PySem.mem_of_lookup k) rfl)
      · exact absurd rfl (S.nocell _ (PySem.mem_of_lookup k))
      · obtain ⟨c2, h2⟩ := look k
        obtain ⟨o, u, g1, g2, g3⟩ := CT.has i y v c2 e1' e2 (S.free _ (PySem.mem_of_lookup k) rfl) (cm h2)
        exact ⟨u, g3, .inr ⟨.inr k, c2, h2, o, kp _ _ (at_ c2 o g1), g2⟩⟩
    · obtain ⟨o, v, g1, g2⟩ := inT (cm e)
      exact ⟨v, o, kp _ _ (at_ c o g1), g2⟩
    · obtain ⟨o, v, g1, g2⟩ := inT (cm e)
      exact minus_in g1
  have hr' : Room kk (A.deeper (PySem.W.envX L.q L.scope s.heap.objs.size f (.ref c') L.clo)) := hr.deeper _
  obtain ⟨te, hp, hs⟩ := hbody A outer s (minus T H1) E' f c' hr'
  have ErE : ErOk X.K cw (minus T H1) E' Er := fun C d gs fs H' hEr i' ex' hx rf => by
    rw [hE']
    intro offH'
    have g : Grow H' (plus T H') := plus_ge offH'
    refine hE C d gs fs (plus T H') hEr ⟨by rw [minus_plus offH']; exact i', on_plus⟩ (fun a o q n => ?_) (g _ _ hx) (RF.grow1 (fun a o q => ?_) rf)
    · cases z : T.lookup a with
      | some o' => rw [i1.2 a o' z] at q; rw [plus_in z]; exact q
      | none => rw [plus_out z]; exact ex' a o (by rw [minus_out z]; exact q) n
    · obtain ⟨q1, q2⟩ := but_some q
      exact but_of q1 (g _ _ q2)
  have rp : Rep X.K cw (minus T H1) [] (minus T H1) σ (strip ρ) := by
    refine ⟨i1.1, i1.1, Ex.refl _, fun a h => by simp at h, fun a h => by simp at h, by unfold strip; rw [List.length_map]; exact hρ, fun i d q => ?_, fun i d q => ?_, fun i j d e p q1 => ?_, fun x C fs _ q => ?_⟩
    · obtain ⟨d', e1, e2⟩ := strip_get q
      cases e1
      obtain ⟨v, g1, g2⟩ := hval i d e2
      refine ⟨v, g1, R.grow (fun a o q => ?_) d v g2⟩
      obtain ⟨q1, q2⟩ := but_some q
      have nT : T.lookup a = none := by
        cases z : T.lookup a with
        | some o' => rw [off a o' z] at q2; cases q2
        | none => rfl
      rw [List.append_nil]
      refine but_of q1 ?_
      rw [minus_out nT]
      exact ex1 a o (by rw [plus_out nT]; exact q2) fun z => q1 (cw.sub a z)
    · obtain ⟨d', e1, _⟩ := strip_get q
      cases e1
    · obtain ⟨d', e1, _⟩ := strip_get q1
      cases e1
    · obtain ⟨d', e1, _⟩ := strip_get q
      cases e1
  have run := hs Er ErE (strip ρ) _ hbD [] σ (minus T H1) (fun v H' => Off T H' → Q v (plus T H')) rp fun v d b H' hp' rp' ex' rb offH' => by
    have g : Grow H' (plus T H') := plus_ge offH'
    refine hq v d (plus T H') hp' ⟨by rw [minus_plus offH']; exact rp'.inv, on_plus⟩ (fun a o q n => ?_) ?_
    · cases z : T.lookup a with
      | some o' => rw [i1.2 a o' z] at q; rw [plus_in z]; exact q
      | none => rw [plus_out z]; exact ex' a o (by rw [minus_out z]; exact q) n
    · have rb' : R X.K (but H' cw.M) d v := by
        unfold RB at rb
        rw [List.append_nil] at rb
        cases b <;> exact rb
      exact R.grow (fun a o q => by
        obtain ⟨q1, q2⟩ := but_some q
        exact but_of q1 (g _ _ q2)) d v rb'
  refine PySem.W.kla_codeExpr (wpAny_mono (hp.run [] _ _ _ _ J run) (fun v s' hq' => ?_) fun e s' hq' => ?_)
  · obtain ⟨w', H', J', rv, q⟩ := hq'
    exact ⟨w', H', J'.os, J'.bare, J'.base, J'.hok, rv, q⟩
  · rw [hE'] at hq'
    exact hq'
end
end QD

/-! QD30: a law's frame with a table of code objects; its end. -/
namespace QD
open PySem L2 PyProof.Rows PySem.Spec
theorem TabQ.grow {H H' : Hp} (g : Grow H H') {P : Addr} {q : Str} (h : TabQ H P q) : TabQ H' P q := by
  obtain ⟨ps, h1, h2, h3⟩ := h
  refine ⟨ps, g _ _ h1, h2, fun pos cv e => ?_⟩
  obtain ⟨c, e1, e2⟩ := h3 pos cv e
  exact ⟨c, e1, e2.grow g⟩
/-- all but p stays, and p is neither the table nor one very object -/
theorem TabQ.one {H H' : Hp} {P p : Addr} {q : Str} (h : TabQ H P q) (k : ∀ a o, H a = some o → a ≠ p → H' a = some o) (n : p ≠ P) (f : ∀ o u, H p ≠ some (.frz o u)) : TabQ H' P q := by
  obtain ⟨ps, h1, h2, h3⟩ := h
  refine ⟨ps, k _ _ h1 n.symm, h2, fun pos cv e => ?_⟩
  obtain ⟨c, e1, o, vs, t, g1, g2⟩ := h3 pos cv e
  exact ⟨c, e1, o, vs, t, k _ _ g1 fun z => f o _ (z ▸ g1), g2⟩
theorem TabQ.nil {H : Hp} {P : Addr} {q : Str} (h : H P = some (.tbl #[])) : TabQ H P q := ⟨#[], h, by simp [TriplesOk], fun pos cv e => by simp [codeAmong] at e⟩
/-- a law's own frame, behind the making of its bag; P: the table of its code objects, all of them of the name q -/
def Fm.law2 (b : Addr × Addr) (P : Addr) (q : Str) : Fm where
  M := [b.1, P]
  S := [b.1, P]
  I := fun H => BagAt [b.1, P] H b ∧ TabQ H P q
  bag := some b
  sub := fun a h => h
  st := fun _ _ g h => ⟨h.1.grow g, h.2.grow g⟩
  sd := fun H h a ha gs z => by
    obtain ⟨⟨ns, i1, i2, i3, i4, h1, _⟩, ps, h2, _⟩ := h
    simp only [List.mem_cons, List.not_mem_nil, or_false] at ha
    rcases ha with rfl | rfl
    · rw [h1] at z; cases z
    · rw [h2] at z; cases z
  kd := fun H h a ha => by
    obtain ⟨⟨ns, i1, i2, i3, i4, h1, _⟩, ps, h2, _⟩ := h
    simp only [List.mem_cons, List.not_mem_nil, or_false] at ha
    rcases ha with rfl | rfl
    · exact ⟨_, h1, rfl⟩
    · exact ⟨_, h2, rfl⟩
  bS := fun b' h => by cases h; simp
  bI := fun b' h H i => by cases h; exact i.1
  bP := fun b' h H H' i k z => by
    cases h
    obtain ⟨⟨ns, i1, i2, i3, i4, h1, _⟩, t⟩ := i
    refine ⟨z, t.one k (fun e => ?_) fun o u e => ?_⟩
    · obtain ⟨ps, h2, _⟩ := t
      rw [← e, h1] at h2
      cases h2
    · rw [h1] at e; cases e
  mu := fun H H' p i k n m f => by
    obtain ⟨⟨ns, i1, i2, i3, i4, h1, h2, h3⟩, t⟩ := i
    obtain ⟨q1, q2⟩ := but_some h2
    exact ⟨⟨ns, i1, i2, i3, i4, k _ _ h1 fun e => n (by rw [← e]; simp), but_of q1 (k _ _ q2 fun e => m b rfl e.symm), h3⟩, t.one k (fun e => n (by rw [e]; simp)) f⟩
/-- what lambdas ask of a frame -/
structure LamF (c : Fm) (P : Addr) (q : Str) : Prop where
  tab : ∀ H, c.I H → TabQ H P q
  inS : P ∈ c.S
  keep : ∀ H H', c.I H → ButP P H H' → TabQ H' P q → c.I H'
theorem lamF_law {b : Addr × Addr} {P : Addr} {q : Str} : LamF (Fm.law2 b P q) P q := ⟨fun H i => i.2, by simp [Fm.law2], fun H H' i k t => by
  obtain ⟨⟨ns, i1, i2, i3, i4, h1, h2, h3⟩, ps, hP, _⟩ := i
  obtain ⟨q1, q2⟩ := but_some h2
  exact ⟨⟨ns, i1, i2, i3, i4, k _ _ h1 fun e => (by rw [e, hP] at h1; cases h1), but_of q1 (k _ _ q2 fun e => q1 (by rw [e]; simp)), h3⟩, t⟩⟩
theorem KdAt.no {H : Hp} {a : Addr} (h : KdAt H a) {o : HO} (e : H a = some o) (n : mutO o = false) : False := by
  obtain ⟨o', h1, h2⟩ := h
  rw [e] at h1
  cases h1
  rw [n] at h2
  cases h2
theorem LamAt.but {H : Hp} {N : List Addr} {L : LamD} {f : Addr} (h : LamAt H L f) (k : ∀ a, a ∈ N → KdAt H a) : LamAt (but H N) L f := by
  have go : ∀ {a : Addr} {o : HO}, H a = some o → mutO o = false → QD.but H N a = some o := fun {a o} e n => but_of (fun z => (k a z).no e n) e
  obtain ⟨doc, pm, c', ct, dV, h1, ⟨o, vs, t, h2, h2'⟩, h3⟩ := h
  refine ⟨doc, pm, c', ct, dV, go h1 rfl, ⟨o, vs, t, go h2 rfl, h2'⟩, ?_⟩
  revert h3
  cases L.dfl with
  | none => exact fun h => h
  | some k => exact fun ⟨t, e1, e2⟩ => ⟨t, e1, go e2 rfl⟩
/-- lambda ..: .. -/
def dLam (L : LamD) : DE := fun _ P => P (.lam L) false
theorem sim_lam {K : PySem.W.Frag} {c : Fm} {H0 : Hp} {P : Addr} {L : LamD} (F : LamF c P L.q) : SimE K c H0 (tLamE P L) (dLam L) := by
  intro ρ Pd h O σ H Q rp q
  refine ⟨F.tab H rp.inv, fun f H1 k t l => ?_⟩
  have ex : Ex c.S H H1 := fun a o e n => k a o e fun z => n (z ▸ F.inS)
  have rp1 := rp.up ex (F.keep H H1 rp.inv k t)
  exact q _ _ _ H1 h rp1 ex ⟨f, rfl, l.but fun a ha => (List.mem_append.mp ha).elim (fun z => c.kd H1 rp1.inv a z) fun z => rp1.liv a z⟩

/-! ### the start of such a law -/
def spBag2 (K : PySem.W.Frag) : Sp := fun vs H Q _ => ∃ (a : Addr) (ns : List Int), vs = [.ref a] ∧ SqL K H a (ns.map V.int) ∧ ns.length ≤ 63 ∧ ∀ b H1, b.1 ≠ b.2 → BagAt [b.1] H1 b → Grow H H1 → Q (.ref b.1) H1
def spLaw2 (K : PySem.W.Frag) (P : Addr) : Sp := fun vs H Q _ => ∃ (a : Addr) (ns : List Int), vs = [.ref a] ∧ SqL K H a (ns.map V.int) ∧ ns.length ≤ 63 ∧ H P = some (.tbl #[]) ∧ ∀ H', Q (.bl true) H'
theorem law2_I {b : Addr × Addr} {P : Addr} {q : Str} {H H1 : Hp} (hP : H P = some (.tbl #[])) (hB : BagAt [b.1] H1 b) (g : Grow H H1) : (Fm.law2 b P q).I H1 := by
  obtain ⟨ns, i1, i2, i3, i4, h1, h2, h3⟩ := hB
  obtain ⟨q1, q2⟩ := but_some h2
  refine ⟨⟨ns, i1, i2, i3, i4, h1, but_of (fun z => ?_) q2, h3⟩, TabQ.nil (g _ _ hP)⟩
  simp only [List.mem_cons, List.not_mem_nil, or_false] at z
  rcases z with z | z
  · exact q1 (by rw [z]; simp)
  · rw [z, g _ _ hP] at q2
    cases q2
theorem law_rest2 {K : PySem.W.Frag} {c : Fm} {H1 : Hp} {b : Addr × Addr} {a P : Addr} {nm : Str} {Q : VK} {ts : TS} {ds : DS} {D : Ends} {σ : L2.St} {n : Nat} (q : ∀ H', Q (.bl true) H') (h : SimS K c H1 ts ds) (hc : c = Fm.law2 b P nm) (hB : (Fm.law2 b P nm).I H1)
    (hσ : σ = some (.ref a) :: some (.ref b.1) :: List.replicate n none) (hd : ds { nx := fun _ => False, rt := fun d => d = .bl true } (none :: some (Ent.val (.raw (.ref b.1))) :: List.replicate n none)) (hD : D.rt = Q := by rfl) : ts D σ H1 := by
  subst hc hσ
  refine h _ _ hd [] _ H1 D (but H1 (Fm.law2 b P nm).M) ⟨hB, hB, Ex.refl _, fun a h => by simp at h, fun a h => by simp at h, ?_, fun i d e => ?_, fun i es e => ?_, fun i j es fs p e => ?_, fun _ _ _ hm _ => nomatch (show (none : Option Addr) = some _ from hm)⟩ (by rw [List.append_nil]; exact Grow.refl _) ⟨fun _ _ _ _ z => z.elim, fun v d H z i e r => ?_, fun _ _ _ _ z => z.elim, fun _ _ _ _ z => z.elim⟩
  · rw [List.length_cons, List.length_cons, List.length_cons, List.length_cons, List.length_replicate, List.length_replicate]
  · match i, e with
    | 0, e => cases e
    | 1, e => cases e; exact ⟨_, rfl, rfl⟩
    | i + 2, e =>
      simp only [List.getElem?_cons_succ, List.getElem?_replicate] at e
      split at e <;> cases e
  · match i, e with
    | 0, e => cases e
    | 1, e => cases e
    | i + 2, e =>
      simp only [List.getElem?_cons_succ, List.getElem?_replicate] at e
      split at e <;> cases e
  · match i, e with
    | 0, e => cases e
    | 1, e => cases e
    | i + 2, e =>
      simp only [List.getElem?_cons_succ, List.getElem?_replicate] at e
      split at e <;> cases e
  · subst z
    rw [show v = .bl true from r, hD]
    exact q H

/-! ### the end of such a law's row -/
theorem walk_tab {l : PySem.W.OpenLaw} {n k : Nat} {q : Program} {loose : List Str} {XP : (Str → Option Value) → Heap → Prop} {YP : World → Heap → Prop} {d d' : DefRec} {K : Params → PySem.W.Frag} {x nm : Str} (hn : l.most = some n) (hn2 : n ≤ sizeLine) (hn3 : n ≤ 63) (hdf : d.params.defaults = []) (hr : Room k callerA)
    (hY : ∀ (w : World) (h : Heap), YP w h → (K w.params).In h) (hrec : List.find? (fun e => e.name == nm) (recsOf q) = some d')
    (F : ∀ (w : World) (mg : Str → Option Value) (fa : Addr) (h : Heap), (K w.params).In h → h.Ns mainGlobals mg → mg d.name = some (.ref fa) →
      ∃ (fd : FuncData) (c P : Addr), PySem.W.tabIn (K w.params) nm = some (c, P) ∧ (K w.params).lookup P = none ∧ (∀ (s : Shared) (u : Value), BindsTo s fd ⟨[u], []⟩ [(x, u)]) ∧
        ∀ base : Heap, (K w.params).In base → base.Ns mainGlobals mg → LamX.TabB base mg c P → FnOk l.prog w (K w.params) mg base CX0 k fa fd [x] (spLaw2 (K w.params) P)) :
    PySem.W.WalkO q loose XP YP l.row.toRowW d [] (fun f vs => PySem.call f vs) := by
  refine Att.attach_callB hn hdf fun w s₀ s₁ mg mb fa o pm cd doc a vs ns G Y ho hd hcd hmg hobj hints hlen hbits hg => ?_
  have KX := hY w s₁.heap Y
  obtain ⟨fd, c, P, hT, hno, hb, hF⟩ := F w mg fa s₁.heap KX G.T.g hmg
  obtain ⟨hC, hP⟩ := PySem.W.tab_of G.T KX hrec hT
  have hmem : ∀ p : Addr × Addr, p ∈ [(c, P)] → p = (c, P) := fun p hp => List.mem_singleton.mp hp
  exact LamX.law_callTs (CX := CX0) (cs := [(c, P)]) (sp := spLaw2 (K w.params) P) KX G.T.g G.T.b G.T.builtins G.T.nolimit hg (fun p hp => by rw [hmem p hp]; exact hP) (fun p hp => by rw [hmem p hp]; exact hno) (fun p hp => by rw [hmem p hp]; exact hC) G.T.bmain hobj hints (Nat.le_trans hlen hn2) hr
    (fun base h1 h2 h3 => hF base h1 h2 (h3 (c, P) List.mem_cons_self)) hb (fun H hH hS => ⟨a, ns, rfl, hS, Nat.le_trans hlen hn3, hH (c, P) List.mem_cons_self, fun _ => rfl⟩) fun H e s' z => z
end QD

/-! QD31: try .. except (A, B, C) as e; fields of a caught error; defs that are called while one is handled. -/
namespace QD
open PySem L2 PyProof.Rows PySem.Spec
theorem flying_up {B h h' : Heap} {l : List Env} {e : Addr} {Z : Obj → Prop} (f : HandSPX.FlyingZ B l e Z h) (k : ∀ b o, h.get? b = some o → h'.get? b = some o) : HandSPX.FlyingZ B l e Z h' := by
  obtain ⟨f1, f2, f3, oe, ws, T, oT, ts, he, hz, hd, h1, hn, hne, hT, hdT, h3⟩ := f
  exact ⟨fun b o q => k b o (f1 b o q), f2, Heap.FunFrames.of_keeps (fun b o q _ => ⟨o, k b o q, rfl⟩) f3, oe, ws, T, oT, ts, k e oe he, hz, hd, h1, hn, hne, k T oT hT, hdT, h3⟩
/-- what is wished of an error within such a try: its class is one of cs -/
def wTup (K : PySem.W.Frag) (cs : List Value) (i : Nat) (ts : Addr → Value → Option Addr → TS) (D : Ends) : WX := fun cls d σ H => PySem.W.exmAny K cls cs = some true ∧ ∀ a, H a = none →
  ts a cls d { nx := fun σ' H' => D.nx (List.set σ' i none) H', rt := D.rt, bk := fun σ' H' => D.bk (List.set σ' i none) H', ct := fun σ' H' => D.ct (List.set σ' i none) H' } (List.set σ i (some (.ref a))) H
theorem names_eval {X : Cx} {pins : List (Addr × Obj)} {σ : L2.St} {H : Hp} {s : Shared} {x : Str} {c : Value} {pos : Pos} {Q : Value → Shared → Prop} {E : Value → Shared → Prop} (I : L2.Inv X pins σ H s) (h : Names X x c) (q : Q c s) : wpAny (model X.prog X.w) X.A (eval (.Name x pos) X.env) Q E s := by
  obtain ⟨hg, hd, hm | ⟨hm, hv, hn⟩⟩ := h
  · exact ld_glob I hg hm q hd
  · exact ld_blt I hg hm hv q hn hd
section
variable {X : Cx}
theorem ps_try_tup {x1 x2 x3 n : Str} {c1 c2 c3 : Value} {i : Nat} {body suite : List Stmt} {b₀ : Stmt} {p1 p2 p3 tp pos pos' : Pos} {kk : Nat} {tb : WX → TS} {ts : Addr → Value → Option Addr → TS}
    (hs : X.stack = X.env :: X.outer) (hf : X.env.frame = some X.env.locals) (hN : X.N.Nodup) (hi : X.N[i]? = some n) (hln : X.env.kindOf n = some .local) (n1 : Names X x1 c1) (n2 : Names X x2 c2) (n3 : Names X x3 c3)
    (hb : ∀ (W : WX) (pn : List (Addr × Obj)) (xe : Value → Shared → Prop), Takes (X.tr pn xe) W → PassesOwn (model X.prog X.w) X.A X.env xe → PSs (X.tr pn xe) body (tb W))
    (hsu : ∀ (a : Addr) (oe : Obj) (cls : Value) (d : Option Addr) (pn : List (Addr × Obj)), Zc cls d oe → (∃ vs, oe.data = .fields vs) → PSs (X.suite a ((a, oe) :: pn)) (b₀ :: suite) (ts a cls d)) :
    PS X (.Try body [.ExceptHandler (some (.Tuple [.Name x1 p1, .Name x2 p2, .Name x3 p3] kk tp)) (some n) (b₀ :: suite) pos'] [] [] pos) (fun D σ H => tb (wTup X.K [c1, c2, c3] i ts D) D σ H) := by
  refine ⟨fun pins s σ H D I h => ?_⟩
  have ok := I.ok
  have hfr : X.A.frames = some (X.env :: X.outer) := by rw [ok.frames, hs]
  have hloc : L2.Loc X.env.scope n := .inl hln
  refine wpAny_Try_except (wpAny_mono ((hb (wTup X.K [c1, c2, c3] i ts D) (X.pn ++ pins) (fun e s₁ => wpAny (model X.prog X.w) X.A (noteFrame e X.env) (fun _ s₂ => wpAny (model X.prog X.w) X.A (setFlight e none) (fun _ s₃ =>
    wpAny (model X.prog X.w) X.A (handleBy e X.env [.ExceptHandler (some (.Tuple [.Name x1 p1, .Name x2 p2, .Name x3 p3] kk tp)) (some n) (b₀ :: suite) pos']) (SP X pins D) X.xe s₃) X.xe s₂) X.xe s₁) (fun u s' xx => ?_) PassesOwn.looking).run [] s σ H D (I.toTry _) h) (fun f s1 hsp => ?_) fun e s' h => h)
  · obtain ⟨a, B, sI, pins', σ', H', cls, d, rfl, J', nb, up, sky, na, os, ag, hex, hyes⟩ := xx
    have J := Inv.ofTry J' ok
    have sky' : Sky B (X.env :: X.outer) a (Zc cls d) X.env.locals s'.heap := by rw [← hs]; exact sky
    refine Sky.land Zc.steady hfr hf sky' fun h3 fl3 up3 => ?_
    have J3 := Inv.landed (s' := { s' with heap := h3 }) J nb fl3.1 (up.trans up3) os ag
    obtain ⟨oe3, vs3, he3, hz3, hd3⟩ := HandSPX.FlyingZ.there fl3
    have nfr : a ∉ (X.env :: X.outer).filterMap (·.frame) := fun hm => by
      obtain ⟨_, o', e', hnf⟩ := fl3.2.2.1.mem hm
      rw [he3] at e'
      cases e'
      exact hnf vs3 hd3
    have nL : a ≠ X.env.locals := fun z => nfr (List.mem_filterMap.mpr ⟨X.env, List.mem_cons_self, by rw [hf, z]⟩)
    have nF : a ∉ X.fs := fun hm => by
      obtain ⟨e, he, q⟩ := List.mem_filterMap.mp hm
      exact nfr (List.mem_filterMap.mpr ⟨e, List.mem_cons_of_mem _ he, q⟩)
    have S3 := Inv.suite J3 he3 hd3 na nL nF
    refine wpAny_handleBy_cons (codeAny_handlers_test ?_) fun q => nomatch q
    refine wpAny_Tuple (wpAny_items_cons (names_eval S3 n1 ?_) rfl)
    refine wpAny_items_cons (names_eval S3 n2 ?_) rfl
    refine wpAny_items_cons (names_eval S3 n3 ?_) rfl
    refine wpAny_items_nil ⟨by rw [sizeLine_eq]; show 3 ≤ 16777216; decide, ?_⟩
    have kp : ∀ b o, h3.get? b = some o → (h3.push { cls := Value.type "tuple", data := Data.seq #[c1, c2, c3] }).get? b = some o := fun b o z => Heap.get?_push_of_some _ z
    have LT : PySem.W.Looks (model X.prog X.w) (h3.push { cls := Value.type "tuple", data := Data.seq #[c1, c2, c3] }) (typeOf (.ref a)) cls := fun A Q E s k q => wpAny_typeOf_ref (k a oe3 (kp _ _ he3)) (by rw [hz3.1]; exact q)
    have KX : X.K.In (h3.push { cls := Value.type "tuple", data := Data.seq #[c1, c2, c3] }) := PySem.W.Frag.In.keeps J3.kIn kp
    refine PySem.W.Looks.here (PySem.W.exm_tup3 KX LT (Heap.get?_push_size h3 rfl) hex) ?_
    have fl3 := flying_up fl3 kp
    have up3 := up3.trans (Heap.UpToSlots.of_keeps kp)
    generalize h3.push { cls := Value.type "tuple", data := Data.seq #[c1, c2, c3] } = h3' at fl3 up3
    show codeAny _ _ _ _ _
    refine codeAny_handlers_suite_as ?_
    refine HandSPX.lands_againZ fl3 fun h4 fl4 up4 => ?_
    have J4 := Inv.landed (s' := { s' with heap := h4 }) J nb fl4.1 ((up.trans up3).trans up4) os ag
    obtain ⟨oe4, vs4, he4, hz4, hd4⟩ := HandSPX.FlyingZ.there fl4
    have S4 := Inv.suite J4 he4 hd4 na nL nF
    refine store_ok (X := X.suite a ((a, oe4) :: (X.pn ++ pins))) S4 hN hi hloc (v := .ref a) rfl (fun s5 S5 => ?_) (.inr hln)
    refine wpAny_mono ((hsu a oe4 cls d (X.pn ++ pins) hz4 ⟨vs4, hd4⟩).run [] s5 _ H' _ S5 (hyes a na)) (fun f s6 hsp => ?_) fun _ _ z => z.elim
    have end_ : ∀ {σ6 : L2.St} {H6 : Hp} {Q : Unit → Shared → Prop} {E : Value → Shared → Prop}, L2.Inv (X.suite a ((a, oe4) :: (X.pn ++ pins))) [] σ6 H6 s6 → (∀ s7, L2.Inv X pins (List.set σ6 i none) H6 s7 → Q () s7) → wpAny (model X.prog X.w) X.A (do
        bindName X.env n Value.none
        unbindBehindTheSuite X.env n pos') Q E s6 := fun {σ6 H6 Q E} S6 hq => gone_ok (Inv.unsuite S6 ok) hN hi hln hq
    cases f with
    | next =>
      obtain ⟨σ6, H6, S6, q6⟩ := hsp
      exact end_ S6 fun s7 J7 => ⟨_, H6, J7, q6⟩
    | brk =>
      obtain ⟨σ6, H6, S6, q6⟩ := hsp
      exact end_ S6 fun s7 J7 => ⟨_, H6, J7, q6⟩
    | cont =>
      obtain ⟨σ6, H6, S6, q6⟩ := hsp
      exact end_ S6 fun s7 J7 => ⟨_, H6, J7, q6⟩
    | ret u =>
      obtain ⟨v, σ6, H6, S6, r6, q6⟩ := hsp
      exact end_ S6 fun s7 J7 => ⟨v, _, H6, J7, r6, q6⟩
  · cases f with
    | next =>
      obtain ⟨σ', H', J', q⟩ := hsp
      exact wpAny_execs_nil ⟨σ', H', Inv.ofTry J' ok, q⟩
    | brk =>
      obtain ⟨σ', H', J', q⟩ := hsp
      exact ⟨σ', H', Inv.ofTry J' ok, q⟩
    | cont =>
      obtain ⟨σ', H', J', q⟩ := hsp
      exact ⟨σ', H', Inv.ofTry J' ok, q⟩
    | ret u =>
      obtain ⟨v, σ', H', J', r, q⟩ := hsp
      exact ⟨v, σ', H', Inv.ofTry J' ok, r, q⟩
end
end QD

/-! QD32: fields of a caught error; defs that are called while one is handled. -/
namespace QD
open PySem L2 PyProof.Rows PySem.Spec
/-- what is asked of the class of an error that is caught: cs, the classes of the clause; ns, what is read of it -/
structure ErCl (K : PySem.W.Frag) (cs : List Value) (ns : List Str) (C : Addr) : Prop where
  xf : XfC K C
  no : ∀ n ∈ ns, PySem.W.findIn K (.ref C) n = some none
  ex : PySem.W.exmAny K (.ref C) cs = some true
/-- e.n of the caught error at a, of the class cls, its dict at d -/
def tXfQ (K : PySem.W.Frag) (a : Addr) (cls : Value) (d : Option Addr) (n : Str) (te : TE) : TE := fun σ H Q => te σ H fun x H1 => x = .ref a ∧ ∃ (C dd : Addr) (fs : List (Str × V)) (v : V), cls = .ref C ∧ d = some dd ∧ XfC K C ∧ PySem.W.findIn K (.ref C) n = some none ∧ H1 dd = some (.xd fs) ∧ fs.lookup n = some v ∧ Q v H1
theorem pe_xfQ {X : Cx} {a : Addr} {cls : Value} {d : Option Addr} {oe : Obj} {e : Expr} {te : TE} {pos : Pos} {n : Str} (hz : Zc cls d oe) (hf : ∃ vs, oe.data = .fields vs) (hp : (a, oe) ∈ X.pn) (he : PE X e te)
    (hb : attributeBase e n X.env (eval e X.env) = eval e X.env := by rfl) : PE X (.Attribute e n pos) (tXfQ X.K a cls d n te) := by
  refine ⟨fun pins s σ H Q I h => attr_of hb (thn (he.run pins s σ H _ I h) fun u s1 hh => ?_)⟩
  obtain ⟨x, H1, I1, rx, rfl, C, dd, fs, v, rfl, rfl, T, hno, ea, l, q⟩ := hh
  have rx : u = .ref a := rx
  subst rx
  obtain ⟨ha, _⟩ := I1.pin (a, oe) (List.mem_append_left pins hp)
  obtain ⟨vs, hd⟩ := hf
  have hx := I1.hok dd _ ea
  obtain ⟨mA, hns, hr⟩ := hx
  obtain ⟨od, ho, hl⟩ := lookIn_ns hns
  have hrn := hr n
  rw [l] at hrn
  obtain ⟨u, hu, ru⟩ := RelO.some_of hrn
  have J : PySem.W.InstAt s1.heap a oe C (some od) := ⟨ha, hz.1, by unfold PySem.W.notCls; rw [hd], by rw [hz.2]; exact ho⟩
  exact HandSPX.exc_get I1.kIn J T.ga T.gg T.exC (PySem.W.findObj_own T.hdC hno rfl (by rw [hl n, hu])) (handed_of ru) ⟨v, H1, I1.tok (s1.toks + 1), ru, q⟩
/-- a def that is called while an error is handled, which stands at p -/
structure FnF (P : Program) (w : World) (K : PySem.W.Frag) (mg : Str → Option Value) (base : Heap) (k : Nat) (f : Addr) (fd : FuncData) (ps : List Str) (sp : Addr × Obj → Sp) : Prop where
  len : ∀ p vs H Q E, sp p vs H Q E → vs.length = ps.length
  run : ∀ (A : Around) (outer : List Env) (s : Shared) (H : Hp) (args : Args) (us : List Value) (vs : List V) (Q : VK) (E : XK) (p : Addr × Obj), L2H.RoomH k A → L2H.PinOk outer H s p → Env0 P w K mg base A outer s H → BindsTo s fd args (ps.zip us) → Vals vs us → sp p vs H Q E →
    codeAny (model P w) A (.call (.ref f) args) (CR CX0 outer P w H s Q E) s
section
variable {P : Program} {w : World} {K : PySem.W.Frag} {mg : Str → Option Value} {base : Heap}
theorem fnF_of {x qual : Str} {st : Stmt} {f : Addr} {fd : FuncData} {N ps : List Str} {k : Nat} {sp : Addr × Obj → Sp} (F : Fun K x qual st f fd) (S : FnScope N ps (defScope st)) (len : ∀ p vs H Q E, sp p vs H Q E → vs.length = ps.length)
    (hbody : ∀ (cdv : Value) (A : Around) (outer : List Env) (s : Shared) (H : Hp) (vs : List V) (Q : VK) (E : XK) (p : Addr × Obj), L2H.RoomH k (A.deeper (envOfC qual (defScope st) s.heap.objs.size f cdv)) → sp p vs H Q E →
      ∃ t, PSs (L2H.cxH CX0 P w K mg base N qual (defScope st) f cdv A outer s H E p) (defBody st) t ∧ t { nx := fun _ H' => Q .non H', rt := Q } (L2.start N vs) H) : FnF P w K mg base (k + 1) f fd ps sp := by
  obtain ⟨oc, od, kV, doc, pm, an, cdv, ct, osl, rfl, lk, hcd⟩ := F.ex
  refine ⟨len, fun A outer s H args us vs Q E p hr hpin e0 hb r hsp => ?_⟩
  have hl := len p vs H Q E hsp
  have KX := PySem.W.Frag.In.keeps e0.mod.kin fun b o e => (e0.bs b o e).1
  have lim := Heap.NoLimit.keeps e0.mod.nolimit fun b o e => (e0.bs b o e).1
  refine codeAny_call_function hr.depth (KX f _ lk) rfl S.co S.gen rfl (PySem.W.codeRec_of KX hcd) (hb _ _ _ _ ?_)
  refine wpAny_newFunctionEnv_cells S.kind (fun y hy => ?_) fun env he s1 x => ?_
  · obtain ⟨n, v⟩ := y
    rcases S.par n (List.of_mem_zip hy).1 with q | q
    · exact .inl q
    · exact .inr ⟨q, PySem.W.cellsFrom_some (defScope st).names (s.heap.objs.size + 1) [] (.inl q)⟩
  · have he : env = envOfC qual (defScope st) s.heap.objs.size f cdv := he
    subst he
    refine ⟨Heap.NoLimit.keeps lim x.toInCall.keep, codeAny_func ?_⟩
    obtain ⟨t, ht, hq⟩ := hbody cdv A outer s H vs Q E p (hr.deeper _) hsp
    have I := L2H.inv_startH (CX := CX0) (P := P) (w := w) (K := K) (mg := mg) (base := base) (E := E) S hpin e0 hl r x
    refine wpAny_mono (ht.run [] s1 (L2.start N vs) H _ I hq) (fun fl s' hs => ?_) fun e s' hs => hs
    cases fl with
    | next =>
      obtain ⟨σ', H', J, q⟩ := hs
      exact ⟨.non, H', J.os, J.bare, J.base, J.hok, rfl, q⟩
    | brk =>
      obtain ⟨_, _, _, q⟩ := hs
      exact q.elim
    | cont =>
      obtain ⟨_, _, _, q⟩ := hs
      exact q.elim
    | ret u =>
      obtain ⟨v, σ', H', J, rv, q⟩ := hs
      exact ⟨v, H', J.os, J.bare, J.base, J.hok, rv, q⟩
end
/-! ### by data -/
/-- e.f of a caught error, whose fields are fs; it stands in slot i -/
def dXf (i : Nat) (a : Addr) (fs : List (Str × D)) (n : Str) : DE := fun ρ P => ρ[i]? = some (some (Ent.val (.raw (.ref a)))) ∧ optP (fs.lookup n) fun z => P z false
section
variable {K : PySem.W.Frag} {c : Fm} {H0 : Hp}
theorem ref_inj {a b : Addr} (h : V.ref a = V.ref b) : a = b := by injection h
theorem sim_xf {i : Nat} {a C d : Addr} {fs : List (Str × D)} {gs : List (Str × V)} {n : Str} {cs : List Value} {ns : List Str} (hc : ErCl K cs ns C) (hn : n ∈ ns) (h0 : H0 d = some (.xd gs)) (rf : RF K (but H0 c.M) fs gs) (hS : d ∉ c.S) : SimE K c H0 (tXfQ K a (.ref C) (some d) n (tVar i)) (dXf i a fs n) := by
  intro ρ P h O σ H Q rp q
  obtain ⟨h1, h2⟩ := h
  obtain ⟨v, g1, g2⟩ := rp.val i _ h1
  have g2 : v = .ref a := g2
  subst g2
  obtain ⟨z, ez, h2⟩ := optP_some h2
  have rf2 : RF K (but H (c.M ++ O)) fs gs := RF.grow1 (fun b o e => by
    obtain ⟨n1, e⟩ := but_some e
    refine but_of (fun z => (List.mem_append.mp z).elim n1 fun z => ?_) (rp.ent b o e fun z => n1 (c.sub b z))
    rw [rp.fresh b z] at e
    cases e) rf
  obtain ⟨u, e2, ru⟩ := RF.lookup rf2 ez
  exact ⟨.ref a, g1, rfl, C, d, gs, u, rfl, rfl, hc.xf, hc.no n hn, rp.ent _ _ h0 hS, e2, q u z false H h2 rp (Ex.refl H) ru⟩
end
/-- a def's promise that is called so: what it makes of the error's class and fields -/
abbrev FldT := Addr → List (Str × D) → (D → Prop) → Prop
def spFc (K : PySem.W.Frag) (cs : List Value) (ns : List Str) (fT : FldT) (a : Addr) (cls : Value) (d : Option Addr) : Sp := fun vs H Q _ => ∃ (C dd : Addr) (gs : List (Str × V)) (fs : List (Str × D)) (c : Fm) (Pd : D → Prop), vs = [.ref a] ∧ cls = .ref C ∧ d = some dd ∧ ErCl K cs ns C ∧ H dd = some (.xd gs) ∧ c.I H ∧ RF K (but H c.M) fs gs ∧ fT C fs Pd ∧
  (∀ v y H', Pd y → c.I H' → Ex c.S H H' → R K (but H' c.M) y v → Q v H')
def spF (K : PySem.W.Frag) (cs : List Value) (ns : List Str) (fT : FldT) (p : Addr × Obj) : Sp := fun vs H Q E => ∃ (cls : Value) (d : Option Addr), Zc cls d p.2 ∧ (∃ us, p.2.data = .fields us) ∧ spFc K cs ns fT p.1 cls d vs H Q E
/-- f(e, ..) within the suite of an except clause -/
def tCallF (K : PySem.W.Frag) (cs : List Value) (ns : List Str) (fT : FldT) (a : Addr) (cls : Value) (d : Option Addr) (t : TA) : TE := fun σ H Q => t σ H fun vs H1 => spFc K cs ns fT a cls d vs H1 Q fun _ _ _ => False
theorem pe_callF {X : Cx} {k : Nat} {f : Addr} {fd : FuncData} {ps : List Str} {cs : List Value} {ns : List Str} {fT : FldT} {a : Addr} {oe : Obj} {cls : Value} {d : Option Addr} {x : Str} {q pos : Pos} {e : Expr} {es : List Expr} {t : TA} (F : FnF X.prog X.w X.K X.mg X.base k f fd ps (spF X.K cs ns fT)) (hr : L2H.RoomH k X.A) (hg : Gl X x) (hm : X.mg x = some (.ref f)) (hk : PySem.W.keepIn X.K (.ref f) = true) (hb : Binds X.K fd ps [])
    (hz : Zc cls d oe) (hf : ∃ vs, oe.data = .fields vs) (hp : (a, oe) ∈ X.pn) (ha : PA X (e :: es) t) (hdb : (x == ("__debug__" : Str)) = false := by decide) (he : starEach (e :: es) X.env = (false, eval e X.env) :: starEach es X.env := by rfl) (hpl : (backTo pos (starEach es X.env)).any (·.1) = false := by rfl) : PE X (.Call (.Name x q) (e :: es) [] pos) (tCallF X.K cs ns fT a cls d t) := by
  refine ⟨fun pins s σ H Q I h => ?_⟩
  refine wpAny_Call_Name_kw (ld_glob I hg hm ?_ hdb)
  refine PySem.W.callWith_K I.ok.mod.kin hk (thn (ha.run pos pins s σ H _ I h) fun us s1 ⟨vs, H1, I1, r, q⟩ => ⟨I1.kIn, ?_⟩) he hpl
  have q : spF X.K cs ns fT (a, oe) vs H1 Q (fun _ _ _ => False) := ⟨cls, d, hz, hf, q⟩
  have hl : us.length = ps.length := by rw [← r.length]; exact F.len _ _ _ _ _ q
  have b := hb s1 us I1.kIn (by simpa using hl)
  rw [List.append_nil] at b
  have P1 := I1.pin (a, oe) (List.mem_append_left pins hp)
  have hpin : L2H.PinOk X.stack H1 s1 (a, oe) := ⟨P1.1, P1.2.1, fun hm => (List.mem_cons.mp (I1.stkSub a hm)).elim P1.2.2.1 P1.2.2.2.1, P1.2.2.2.2⟩
  refine wpAny_call (codeAny_mono (F.run X.A X.stack s1 H1 ⟨us, []⟩ us vs Q _ (a, oe) hr hpin I1.env0 b r q) fun r' s' hq => ?_)
  cases r' with
  | error e => exact (show False from hq).elim
  | ok fl =>
    cases fl with
    | ret u => exact I1.after hq
    | next => exact False.elim hq
    | brk => exact False.elim hq
    | cont => exact False.elim hq
theorem okF {P : Program} {w : World} {K : PySem.W.Frag} {mg : Str → Option Value} {base : Heap} {x qual : Str} {st : Stmt} {f : Addr} {fd : FuncData} {N : List Str} {pn : Str} {k : Nat} {cs : List Value} {ns : List Str} {fT : FldT} (F : Fun K x qual st f fd) (S : FnScope N [pn] (defScope st))
    (hbody : ∀ (cdv : Value) (A : Around) (outer : List Env) (s : Shared) (H : Hp) (E : XK) (a : Addr) (oe : Obj) (c : Fm) (C d : Addr) (gs : List (Str × V)) (fs : List (Str × D)) (Pd : D → Prop), L2H.RoomH k (A.deeper (envOfC qual (defScope st) s.heap.objs.size f cdv)) → ErCl K cs ns C → fT C fs Pd → Zc (.ref C) (some d) oe → (∃ us, oe.data = .fields us) →
      H d = some (.xd gs) → RF K (but H c.M) fs gs → d ∉ c.S →
      ∃ ts dsb, PSs (L2H.cxH CX0 P w K mg base N qual (defScope st) f cdv A outer s H E (a, oe)) (defBody st) ts ∧ SimS K c H ts dsb ∧ dsb { nx := fun _ => Pd .non, rt := Pd } (dstart N.length [.raw (.ref a)])) :
    FnF P w K mg base (k + 1) f fd [pn] (spF K cs ns fT) := by
  refine fnF_of F S (fun p vs H Q E h => ?_) fun cdv A outer s H vs Q E p hr h => ?_
  · obtain ⟨_, _, _, _, _, _, _, _, _, _, rfl, _⟩ := h
    rfl
  · obtain ⟨_, _, hz, hf, C, d, gs, fs, c, Pd, rfl, rfl, rfl, hc, hx, i, rf, hT, q⟩ := h
    have hS : d ∉ c.S := fun z => c.sd H i d z gs hx
    obtain ⟨a, oe⟩ := p
    obtain ⟨ts, dsb, hp, hs, hb⟩ := hbody cdv A outer s H E a oe c C d gs fs Pd hr hc hT hz hf hx rf hS
    refine ⟨ts, hp, ?_⟩
    refine hs _ _ hb [] _ H _ (but H c.M) (rep_start i ⟨.ref a, [], rfl, rfl, rfl⟩) (by rw [List.append_nil]; exact Grow.refl _) ⟨fun ρ O σ H' h rp _ => q _ _ H' h rp.inv rp.ent rfl, fun v y H' h i ex r => q v y H' h i ex r, fun ρ O σ H' h => h.elim, fun ρ O σ H' h => h.elim⟩
end QD

/-! QD33: a thunk is called within a try; what such a def gives, by the thunk's own promise. -/
namespace QD
open PySem L2 PyProof.Rows PySem.Spec
section
variable {P : Program} {w : World} {K : PySem.W.Frag} {mg : Str → Option Value} {base : Heap} {kk : Nat} {c : Fm} {Hs H : Hp} {L : LamD} {bD : DBeh}
/-- f() of a parameter that holds a lambda -/
def tThunk (X : Cx) (i kk : Nat) (W : WX) : TE := fun σ H Q => ∃ (c : Fm) (L : LamD) (bD : DBeh) (Pd : D → Prop) (Er : DEr) (f : Addr), σ[i]? = some (some (.ref f)) ∧ LamAt H L f ∧ ThL X.prog X.w X.K X.mg X.base kk c H L bD ∧ c.I H ∧ bD Pd Er ∧
  (∀ v d H', Pd d → c.I H' → Ex c.S H H' → R X.K (but H' c.M) d v → Q v H') ∧ ErOk X.K c H (fun cls d H' => W cls d σ H') Er
theorem pe_thunk {X : Cx} {i : Nat} {x : Str} {p pos : Pos} {W : WX} (hr : Room kk X.A) (tk : Takes X W) (hi : X.N[i]? = some x) (hv : Vis X.env.scope x) (hd : (x == ("__debug__" : Str)) = false := by decide) (hcd : (x == ("__classdict__" : Str)) = false := by decide) : PE X (.Call (.Name x p) [] [] pos) (tThunk X i kk W) := by
  refine ⟨fun pins s σ H Q I h => ?_⟩
  obtain ⟨c, L, bD, Pd, Er, f, hs, hL, hT, hi', hb, hq, hE⟩ := h
  refine wpAny_Call_Name_kw (thn ((pe_var hi hv hd hcd).run pins s σ H (fun v H1 => v = .ref f ∧ H1 = H) I ⟨.ref f, hs, rfl, rfl⟩) fun u s1 hx => ?_)
  obtain ⟨v, H1, I1, r1, rfl, rfl⟩ := hx
  have r1 : u = .ref f := r1
  subst r1
  have fn : PySem.W.FnAt f s1.heap := by
    obtain ⟨doc, pm, c', ct, dV, hf, _⟩ := hL
    exact ⟨_, _, _, _, hok_pin I1.hok hf⟩
  refine PySem.W.callWith_F0 fn ?_
  refine wpAny_call (codeAny_mono (hT f X.A X.stack s1 H1 Q _ Pd Er hr I1.env0 hi' (Ex.refl _) hL hb hq hE) fun r' s' hq => ?_)
  cases r' with
  | error e => exact tk _ _ (XE.of_call I1 (fun _ _ _ h => h) hq)
  | ok fl =>
    cases fl with
    | ret u => exact I1.after hq
    | next => exact False.elim hq
    | brk => exact False.elim hq
    | cont => exact False.elim hq
/-- what is told of an error: its code, and what fT makes of it -/
def erGot (K : PySem.W.Frag) (cs : List Value) (ns : List Str) (fT : FldT) (P : D → Prop) : DEr := fun C fs => ErCl K cs ns C ∧ ∃ code : Str, fs.lookup ("code" : Str) = some (D.str code) ∧ fT C fs fun y => P (.tup [.str code, y])
def spGot (P : Program) (w : World) (K : PySem.W.Frag) (mg : Str → Option Value) (base : Heap) (kk : Nat) (cs : List Value) (ns : List Str) (fT : FldT) : Sp := fun vs H Q _ => ∃ (c : Fm) (L : LamD) (bD : DBeh) (Pd : D → Prop) (v : V), vs = [v] ∧ c.I H ∧ R K (but H c.M) (.lam L) v ∧ ThL P w K mg base kk c H L bD ∧
  bD (fun d => Pd (.tup [.str "", d])) (erGot K cs ns fT Pd) ∧ (∀ v d H', Pd d → c.I H' → Ex c.S H H' → R K (but H' c.M) d v → Q v H')
/-- said = ('', None); try: said = ('', ask()); except ..: said = (e.code, field(e)); return said -/
theorem got_read {X : Cx} {cs : List Value} {ns : List Str} {fT : FldT} {v : V} {Q : VK} {E : XK} (hns : ("code" : Str) ∈ ns) (h : spGot X.prog X.w X.K X.mg X.base kk cs ns fT [v] H Q E) :
    tSeq (tAsg (tTup (tCons (tC (.str "")) (tCons (tC .non) tNil))) (gName 1)) (tSeq (fun D σ H => (fun W => tAsg (tTup (tCons (tC (.str "")) (tCons (tThunk X 0 kk W) tNil))) (gName 1))
      (wTup X.K cs 2 (fun a cls d => tAsg (tTup (tCons (tXfQ X.K a cls d "code" (tVar 2)) (tCons (tCallF X.K cs ns fT a cls d (tCons (tVar 2) tNil)) tNil))) (gName 1)) D) D σ H) (tRet (tVar 1))) { nx := fun _ H' => Q .non H', rt := Q } [some v, none, none] H := by
  obtain ⟨c, L, bD, Pd, v', hv, i, rv, hT, hb, q⟩ := h
  obtain rfl : v = v' := by injection hv
  obtain ⟨f, rfl, hL⟩ := rv
  refine ⟨by show 2 ≤ sizeLine; decide, fun p0 hp0 => ?_⟩
  have g1 : Grow H (upd H p0 (.tup [.str "", .non])) := Grow.new hp0
  have i1 := c.st _ _ g1 i
  have ex1 : Ex c.S H (upd H p0 (.tup [.str "", .non])) := Ex.new hp0
  generalize upd H p0 (.tup [.str "", .non]) = H1 at g1 i1 ex1
  have hL1 : LamAt H1 L f := hL.grow (but_grow.trans g1)
  have hT1 : ThL X.prog X.w X.K X.mg X.base kk c H1 L bD := fun f A outer s H' Q E Pd Er hr e0 i' ex => hT f A outer s H' Q E Pd Er hr e0 i' (ex1.trans ex)
  have fin : ∀ (x : Str) (y : V) (z : D) (H' : Hp), Pd (.tup [.str x, z]) → c.I H' → Ex c.S H1 H' → R X.K (but H' c.M) z y → ∀ p, H' p = none → Q (.ref p) (upd H' p (.tup [.str x, y])) := fun x y z H' hP i' ex' rz p hp => by
    have gp : Grow H' (upd H' p (.tup [.str x, y])) := Grow.new hp
    refine q _ _ _ hP (c.st _ _ gp i') ((ex1.trans ex').trans (Ex.new hp)) ⟨p, _, rfl, .inl (.inl (but_of (fun z => c.liv H' i' p z hp) upd_same)), ⟨_, _, rfl, rfl, _, _, rfl, R.grow (fun a o e => ?_) _ _ rz, rfl⟩⟩
    obtain ⟨n, e⟩ := but_some e
    exact but_of n (gp a o e)
  refine ⟨c, L, bD, _, _, f, rfl, hL1, hT1, i1, hb, fun y d H' hP i' ex' ry => ?_, fun C d gs fs H' hEr i' ex' hx rf => ?_⟩
  · refine ⟨by show 2 ≤ sizeLine; decide, fun p hp => ?_⟩
    exact ⟨.ref p, rfl, fin "" y d H' hP i' ex' ry p hp⟩
  · obtain ⟨hc, code, hcode, hfT⟩ := hEr
    refine ⟨hc.ex, fun a ha => ?_⟩
    obtain ⟨u, e2, ru⟩ := RF.lookup rf hcode
    have ru : u = .str code := ru
    subst ru
    refine ⟨.ref a, rfl, rfl, C, d, gs, .str code, rfl, rfl, hc.xf, hc.no _ hns, hx, e2, ?_⟩
    refine ⟨.ref a, rfl, C, d, gs, fs, c, _, rfl, rfl, rfl, hc, hx, i', rf, hfT, fun y z H2 hP i2 ex2 rz => ?_⟩
    refine ⟨by show 2 ≤ sizeLine; decide, fun p hp => ?_⟩
    exact ⟨.ref p, rfl, fin code y z H2 hP i2 (ex'.trans ex2) rz p hp⟩

/-! ### thunks in a list -/
/-- .. whatever own things the frame has besides -/
def ThA (P : Program) (w : World) (K : PySem.W.Frag) (mg : Str → Option Value) (base : Heap) (kk : Nat) (c : Fm) (Hs : Hp) (L : LamD) (bD : DBeh) : Prop := ∀ (O : List Addr) (hb : ∀ b, c.bag = some b → b.2 ∉ O ∧ b.1 ∉ O), (∀ a ∈ O, Hs a = none) → ThL P w K mg base kk (c.wide O hb) Hs L bD
theorem ThL.later (h : ThL P w K mg base kk c Hs L bD) (e : Ex c.S Hs H) : ThL P w K mg base kk c H L bD := fun f A outer s H' Q E Pd Er hr e0 i' ex => h f A outer s H' Q E Pd Er hr e0 i' (e.trans ex)
def dGot (K : PySem.W.Frag) (cs : List Value) (ns : List Str) (fT : FldT) (LB : List (LamD × DBeh)) (da : DA) : DE := fun ρ P => da ρ fun xs b => b = false ∧ ∃ x ∈ LB, xs = [.lam x.1] ∧ x.2 (fun d => P (.tup [.str "", d]) false) (erGot K cs ns fT fun d => P d false)
theorem sim_got {cs : List Value} {ns : List Str} {fT : FldT} {LB : List (LamD × DBeh)} {E : XK} {t : TA} {da : DA} {H0 : Hp} (hT : ∀ x ∈ LB, ThA P w K mg base kk c H0 x.1 x.2) (ha : SimA K c H0 t da) : SimE K c H0 (tCall (spGot P w K mg base kk cs ns fT) [] E t) (dGot K cs ns fT LB da) := by
  intro ρ Pd h O σ H Q rp q
  refine ha ρ _ h O σ H _ rp fun vs xs b H1 h1 rp1 e1 rx => ?_
  obtain ⟨rfl, x, hx, rfl, h1⟩ := h1
  obtain ⟨v, r, rfl, rv, hr⟩ := rx
  have hr : r = [] := hr
  subst hr
  refine ⟨rp1.fm, x.1, x.2, fun d => Pd d false, v, rfl, ⟨rp1.inv, rp1.liv⟩, rv, (hT x hx O rp1.bagO rp1.fresh).later rp1.ent, h1, fun v d H' hp i ex r => ?_⟩
  exact q v d false H' hp (rp1.up ex i.1) (e1.trans ex) r
def allGo (K : PySem.W.Frag) (cs : List Value) (ns : List Str) (fT : FldT) (Pd : D → Prop) : List (LamD × DBeh) → List D → Prop
  | [], acc => Pd (.lst acc)
  | x :: r, acc => x.2 (fun d => allGo K cs ns fT Pd r (acc ++ [.tup [.str "", d]])) (erGot K cs ns fT fun d => allGo K cs ns fT Pd r (acc ++ [d]))
def spAllGot (P : Program) (w : World) (K : PySem.W.Frag) (mg : Str → Option Value) (base : Heap) (kk : Nat) (cs : List Value) (ns : List Str) (fT : FldT) : Sp := fun vs H Q _ => ∃ (c : Fm) (LB : List (LamD × DBeh)) (Pd : D → Prop) (v : V), vs = [v] ∧ c.I H ∧ R K (but H c.M) (.lst (LB.map fun x => .lam x.1)) v ∧ LB.length ≤ 1000 ∧ (∀ x ∈ LB, ThA P w K mg base kk c H x.1 x.2) ∧
  allGo K cs ns fT Pd LB [] ∧ (∀ v d H', Pd d → c.I H' → Ex c.S H H' → R K (but H' c.M) d v → Q v H')
/-- what follows from what is promised is promised, too -/
def upB (bD : DBeh) : DBeh := fun Pd Er => ∃ Pd' Er', bD Pd' Er' ∧ (∀ d, Pd' d → Pd d) ∧ ∀ C fs, Er' C fs → Er C fs
theorem ThL.up (h : ThL P w K mg base kk c Hs L bD) : ThL P w K mg base kk c Hs L (upB bD) := fun f A outer s H Q E Pd Er hr e0 i ex hL ⟨Pd', Er', hb, h1, h2⟩ q hE => h f A outer s H Q E Pd' Er' hr e0 i ex hL hb (fun v d H' hp => q v d H' (h1 d hp)) fun C d gs fs H' hf => hE C d gs fs H' (h2 C fs hf)
theorem ThA.up (h : ThA P w K mg base kk c Hs L bD) : ThA P w K mg base kk c Hs L (upB bD) := fun O hb hO => (h O hb hO).up
def MonoF (fT : FldT) : Prop := ∀ C fs (P P' : D → Prop), (∀ y, P y → P' y) → fT C fs P → fT C fs P'
theorem erGot_mono {cs : List Value} {ns : List Str} {fT : FldT} (hm : MonoF fT) {P P' : D → Prop} (h : ∀ y, P y → P' y) {C : Addr} {fs : List (Str × D)} (e : erGot K cs ns fT P C fs) : erGot K cs ns fT P' C fs := by
  obtain ⟨h1, code, h2, h3⟩ := e
  exact ⟨h1, code, h2, hm _ _ _ _ (fun y z => h _ z) h3⟩
theorem allGot_go {cs : List Value} {ns : List Str} {fT : FldT} {LB LB' : List (LamD × DBeh)} (hm : MonoF fT) {Pd : D → Prop} {i : Nat} {ρ : DEnv} (hij : i < ρ.length) : ∀ (l : List (LamD × DBeh)) (acc : List D), (∀ x ∈ l, (x.1, upB x.2) ∈ LB) → acc.length + l.length ≤ 1000 → allGo K cs ns fT Pd l acc →
    lcGo (dGName i) (fun _ P => P true) (dGot K cs ns fT LB (dCons (dVar i) dNil)) [i] ρ acc (l.map fun x => .lam x.1) fun acc => Pd (.lst acc)
  | [], acc, _, _, h => h
  | x :: l, acc, hl, hz, h => by
    have step : ∀ d : D, allGo K cs ns fT Pd l (acc ++ [d]) → lcGo (dGName i) (fun _ P => P true) (dGot K cs ns fT LB (dCons (dVar i) dNil)) [i] ρ (acc ++ [d]) (l.map fun x => .lam x.1) fun acc => Pd (.lst acc) := fun d h => allGot_go (LB' := LB) hm hij l (acc ++ [d]) (fun y hy => hl y (List.mem_cons_of_mem _ hy)) (by rw [List.length_append, List.length_singleton]; rw [List.length_cons] at hz; omega) h
    have hs : acc.length < sizeLine := by rw [List.length_cons] at hz; rw [sizeLine_eq]; omega
    have e : ((dwipe ρ [i]).set i (some (Ent.val (.lam x.1))))[i]? = some (some (Ent.val (.lam x.1))) := List.getElem?_set_self (by rw [dwipe_len]; exact hij)
    rw [List.map_cons]
    unfold lcGo dGName
    refine iteT ?_
    show getE ((dwipe ρ [i]).set i (some (Ent.val (.lam x.1))))[i]? _
    rw [e]
    refine ⟨rfl, _, hl x List.mem_cons_self, rfl, _, _, h, fun d hd => ⟨rfl, hs, step _ hd⟩, fun C fs hf => erGot_mono hm (fun d hd => ⟨rfl, hs, step _ hd⟩) hf⟩
end
end QD

/-! QD34: a law hands its lambdas to a def; by data. -/
namespace QD
open PySem L2 PyProof.Rows PySem.Spec
/-- all stays but cells that are pinned -/
def Gc (H H' : Hp) : Prop := ∀ a o, H a = some o → H' a = some o ∨ ∃ ob v, o = pinO ob ∧ ob.data = .cell v
theorem Gc.at {H H' : Hp} (g : Gc H H') {a : Addr} {o : HO} (h : H a = some o) (n : ∀ ob v, o = pinO ob → ob.data ≠ .cell v) : H' a = some o := (g a o h).elim id fun ⟨ob, v, e1, e2⟩ => absurd e2 (n ob v e1)
theorem pin_eq {o ob : Obj} {u : HO} (h : HO.frz o u = pinO ob) : ob = o ∧ u = .ext fun _ => True := by
  have h' : HO.frz o u = HO.frz ob (.ext fun _ => True) := h
  injection h' with h1 h2
  exact ⟨h1.symm, h2⟩
theorem Gc.tup {K : PySem.W.Frag} {H H' : Hp} (g : Gc H H') {a : Addr} {xs : List V} (h : SqT K H a xs) : SqT K H' a xs := by
  rcases h with (h | ⟨o, h⟩) | h
  · exact .inl (.inl (g.at h fun ob v z => by cases z))
  · refine .inl (.inr ⟨o, g.at h fun ob v z => ?_⟩)
    obtain ⟨_, z⟩ := pin_eq z
    cases z
  · exact .inr h
theorem Gc.lam {H H' : Hp} (g : Gc H H') {L : LamD} {f : Addr} (h : LamAt H L f) : LamAt H' L f := by
  obtain ⟨doc, pm, c', ct, dV, h1, ⟨o, vs, t, h2, h3, h4⟩, h5⟩ := h
  refine ⟨doc, pm, c', ct, dV, g.at h1 fun ob v z w => ?_, ⟨o, vs, t, g.at h2 fun ob v z w => ?_, h3, h4⟩, ?_⟩
  · obtain ⟨rfl, _⟩ := pin_eq z
    cases w
  · obtain ⟨rfl, _⟩ := pin_eq z
    rw [h3] at w
    cases w
  · revert h5
    cases L.dfl with
    | none => exact fun h => h
    | some k => exact fun ⟨t, e1, e2⟩ => ⟨t, e1, g.at e2 fun ob v z => by cases z⟩
section
variable {K : PySem.W.Frag} {H H' : Hp}
mutual
theorem R.gc (g : Gc H H') : ∀ (d : D) (v : V), R K H d v → R K H' d v
  | .non, _, h => h
  | .bl _, _, h => h
  | .int _, _, h => h
  | .str _, _, h => h
  | .lst ds, v, h => by
    obtain ⟨a, xs, e1, h1, h2⟩ := h
    exact ⟨a, xs, e1, g.at h1 (fun ob v z => by cases z), RA.gc g ds xs h2⟩
  | .tup ds, v, h => by
    obtain ⟨a, xs, e1, h1, h2⟩ := h
    exact ⟨a, xs, e1, g.tup h1, RA.gc g ds xs h2⟩
  | .ins C fs, v, h => by
    obtain ⟨a, dx, gs, e1, h1, h2⟩ := h
    exact ⟨a, dx, gs, e1, g.at h1 (fun ob v z => by cases z), RF.gc g fs gs h2⟩
  | .raw _, _, h => h
  | .lam L, v, h => by
    obtain ⟨f, e1, h1⟩ := h
    exact ⟨f, e1, g.lam h1⟩
  | .dk kvs, v, h => by
    obtain ⟨a, gs, e1, h1, h2⟩ := h
    exact ⟨a, gs, e1, h1.elim (fun y => .inl (g.at y fun ob v z => by cases z)) (fun ⟨o, y⟩ => .inr ⟨o, g.at y fun ob v z => by cases z⟩), RK.gc g kvs gs h2⟩
  | .dt kvs, v, h => by
    obtain ⟨a, gs, e1, h1, h2⟩ := h
    exact ⟨a, gs, e1, h1.elim (fun y => .inl (g.at y fun ob v z => by cases z)) (fun ⟨o, y⟩ => .inr ⟨o, g.at y fun ob v z => by cases z⟩), RT.gc g kvs gs h2⟩
theorem RA.gc (g : Gc H H') : ∀ (ds : List D) (vs : List V), RA K H ds vs → RA K H' ds vs
  | [], _, h => h
  | d :: ds, vs, h => by
    obtain ⟨v, r, e1, h1, h2⟩ := h
    exact ⟨v, r, e1, R.gc g d v h1, RA.gc g ds r h2⟩
theorem RF.gc (g : Gc H H') : ∀ (fs : List (Str × D)) (gs : List (Str × V)), RF K H fs gs → RF K H' fs gs
  | [], _, h => h
  | f :: fs, gs, h => by
    obtain ⟨v, r, e1, h1, h2⟩ := h
    exact ⟨v, r, e1, R.gc g f.2 v h1, RF.gc g fs r h2⟩
theorem RK.gc (g : Gc H H') : ∀ (fs : List (Key × D)) (gs : List (Key × V)), RK K H fs gs → RK K H' fs gs
  | [], _, h => h
  | f :: fs, gs, h => by
    obtain ⟨v, r, e1, h1, h2⟩ := h
    exact ⟨v, r, e1, R.gc g f.2 v h1, RK.gc g fs r h2⟩
theorem RT.gc (g : Gc H H') : ∀ (fs : List (List Key × D)) (gs : List (List Key × V)), RT K H fs gs → RT K H' fs gs
  | [], _, h => h
  | f :: fs, gs, h => by
    obtain ⟨v, r, e1, h1, h2⟩ := h
    exact ⟨v, r, e1, R.gc g f.2 v h1, RT.gc g fs r h2⟩
end
end
section
variable {X : Cx} {σ : L2.St} {T : List (Addr × Obj)} {kk : Nat} {c : Fm} {H0 H : Hp} {O : List Addr} {ρ : DEnv}
theorem cell_of (C : CellT X σ T) {a : Addr} {o : Obj} (h : T.lookup a = some o) : ∃ v, o.data = .cell v := by
  obtain ⟨x, hx⟩ := C.only a o h
  obtain ⟨o', v, h1, h2⟩ := C.all x a hx
  rw [h] at h1
  cases h1
  exact ⟨v, h2⟩
theorem gc_minus (C : CellT X σ T) {H' : Hp} (on : On T H') (M : List Addr) : Gc (but H' M) (but (minus T H') M) := fun a o e => by
  obtain ⟨n, e⟩ := but_some e
  cases z : T.lookup a with
  | some ob =>
    rw [on a ob z] at e
    obtain ⟨v, hv⟩ := cell_of C z
    exact .inr ⟨ob, v, (Option.some.inj e).symm, hv⟩
  | none => exact .inl (but_of n (by rw [minus_out z]; exact e))
theorem ThL.congr {P : Program} {w : World} {K : PySem.W.Frag} {mg : Str → Option Value} {base : Heap} {c c' : Fm} {Hs : Hp} {L : LamD} {bD : DBeh} (hM : c.M = c'.M) (hS : c.S = c'.S) (hI : ∀ H, c.I H ↔ c'.I H) (h : ThL P w K mg base kk c Hs L bD) : ThL P w K mg base kk c' Hs L bD :=
  fun f A outer s H Q E Pd Er hr e0 i ex hL hb q hE => h f A outer s H Q E Pd Er hr e0 ((hI H).mpr i) (by rw [hS]; exact ex) hL hb (fun v d H' hp i' ex' r => q v d H' hp ((hI H').mp i') (by rw [← hS]; exact ex') (by rw [← hM]; exact r))
    fun C d gs fs H' hf i' ex' hx rf => hE C d gs fs H' hf ((hI H').mp i') (by rw [← hS]; exact ex') hx (by rw [← hM]; exact rf)
/-- a lambda of a law: what its body gives -/
structure LamOk (X : Cx) (kk : Nat) (bag : Option (Addr × Addr)) (L : LamD) (de : DEX) : Prop where
  clo : L.clo = cloFrom X.env.cells L.scope.names []
  bind : ∀ (s : Shared) (H : Hp) (doc pm cv ct dV : Value), HOk X.prog X.w H s.heap → DflAt H dV L.dfl → ∃ binds, BindsTo s (PySem.W.kdv_fn "<lambda>" L.q L.params (.expr L.body) L.scope L.clo dV doc pm cv ct) ⟨[], []⟩ binds ∧ ∀ y ∈ binds, L.scope.names.lookup y.1 = some .local
  body : ∃ N' : List Str, LamS N' X.env.scope L.scope ∧ MaskN X.N N' L.scope ∧ ∀ (cw : Fm), cw.bag = bag → ∀ (A : Around) (outer : List Env) (s : Shared) (H : Hp) (E : XK) (f c' : Addr), Room kk (A.deeper (PySem.W.envX L.q L.scope s.heap.objs.size f (.ref c') L.clo)) → ∃ te, PE (lamCy X A outer s H E L f c' N') L.body te ∧ ∀ Er, ErOk X.K cw H E Er → SimE X.K cw H te (de Er)
theorem bind_0 {X : Cx} {L : LamD} (hd : L.dfl = none) (h : ∀ (doc pm cv ct : Value), bindArgs (PySem.W.kdv_fn "<lambda>" L.q L.params (.expr L.body) L.scope L.clo .none doc pm cv ct) ⟨[], []⟩ = pure []) (s : Shared) (H : Hp) (doc pm cv ct dV : Value) (_ : HOk X.prog X.w H s.heap) (e : DflAt H dV L.dfl) :
    ∃ binds, BindsTo s (PySem.W.kdv_fn "<lambda>" L.q L.params (.expr L.body) L.scope L.clo dV doc pm cv ct) ⟨[], []⟩ binds ∧ ∀ y ∈ binds, L.scope.names.lookup y.1 = some .local := by
  rw [hd] at e
  have e : dV = .none := e
  subst e
  exact ⟨[], .of_eq (h doc pm cv ct), fun y hy => by simp at hy⟩
theorem bind_k {X : Cx} {L : LamD} {k : Int} {x : Str} (hd : L.dfl = some k) (hx : L.scope.names.lookup x = some .local) (h : ∀ (t : Addr) (doc pm cv ct u : Value), ∃ kf, bindArgs (PySem.W.kdv_fn "<lambda>" L.q L.params (.expr L.body) L.scope L.clo (.ref t) doc pm cv ct) ⟨[], []⟩ = seqItems? (.ref t) >>= kf ∧ kf (some #[u]) = pure [(x, u)]) (s : Shared) (H : Hp) (doc pm cv ct dV : Value) (hk : HOk X.prog X.w H s.heap) (e : DflAt H dV L.dfl) :
    ∃ binds, BindsTo s (PySem.W.kdv_fn "<lambda>" L.q L.params (.expr L.body) L.scope L.clo dV doc pm cv ct) ⟨[], []⟩ binds ∧ ∀ y ∈ binds, L.scope.names.lookup y.1 = some .local := by
  rw [hd] at e
  obtain ⟨t, rfl, ht⟩ := e
  have ho := hk t _ ht
  obtain ⟨_, us, rv, o, hget, hcl, n, hdata⟩ := ho
  cases rv with
  | cons r1 r2 =>
  cases r2
  rename_i u
  obtain ⟨kf, h1, h2⟩ := h t doc pm cv ct u
  exact ⟨[(x, u)], BindsTo.of_defaults rfl hget hdata h1 h2, fun y hy => by rw [List.mem_singleton.mp hy]; exact hx⟩
theorem lam_thL {L : LamD} {de : DEX} (ok : LamOk X kk c.bag L de) (C : CellT X σ T) (off : Off T H) (rp : Rep X.K c H0 O H σ ρ) (O' : List Addr) (hb : ∀ b, c.bag = some b → b.2 ∉ O' ∧ b.1 ∉ O') (hO : ∀ a ∈ O', H a = none) :
    ThL X.prog X.w X.K X.mg X.base (kk + 1) ((rp.fm.wide O' hb).pinned T) (plus T H) L (fun Pd Er => de Er (strip ρ) fun d _ => Pd d) := by
  obtain ⟨N', S, hN, ok2⟩ := ok.body
  refine lam_th (cw := rp.fm.wide O' hb) C S hN ok.clo rp.len off (fun i d e => ?_) ok.bind fun A outer s H E f c' hr => ok2 (rp.fm.wide O' hb) rfl A outer s H E f c' hr
  obtain ⟨v, h1, h2⟩ := rp.val i d e
  refine ⟨v, h1, R.grow (fun a o q => ?_) d v h2⟩
  obtain ⟨n, q⟩ := but_some q
  exact but_of (fun z => (List.mem_append.mp z).elim n fun z => by rw [hO a z] at q; cases q) q
theorem lam_thA {L : LamD} {de : DEX} (ok : LamOk X kk c.bag L de) (C : CellT X σ T) (off : Off T H) (rp : Rep X.K c H0 O H σ ρ) : ThA X.prog X.w X.K X.mg X.base (kk + 1) (rp.fm.pinned T) (plus T H) L (fun Pd Er => de Er (strip ρ) fun d _ => Pd d) := fun O' hb hO => by
  have hT : ∀ a ∈ O', T.lookup a = none := fun a ha => by
    cases z : T.lookup a with
    | none => rfl
    | some o =>
      have := hO a ha
      rw [plus_in z] at this
      cases this
  have h1 := lam_thL ok C off rp O' hb fun a ha => by have := hO a ha; rwa [plus_out (hT a ha)] at this
  refine ThL.congr (c := (rp.fm.wide O' hb).pinned T) (c' := (rp.fm.pinned T).wide O' hb) rfl rfl (fun H' => ⟨fun h => ?_, fun h => ?_⟩) h1
  · obtain ⟨⟨h1, h2⟩, h3⟩ := h
    exact ⟨⟨h1, h3⟩, fun a ha => (h2 a ha).keep fun o e => minus_le a o e⟩
  · obtain ⟨⟨h1, h3⟩, h2⟩ := h
    exact ⟨⟨h1, fun a ha => (h2 a ha).keep fun o e => by rw [minus_out (hT a ha)]; exact e⟩, h3⟩
theorem lam_thL0 {L : LamD} {de : DEX} (ok : LamOk X kk c.bag L de) (C : CellT X σ T) (off : Off T H) (rp : Rep X.K c H0 O H σ ρ) : ThL X.prog X.w X.K X.mg X.base (kk + 1) (rp.fm.pinned T) (plus T H) L (fun Pd Er => de Er (strip ρ) fun d _ => Pd d) :=
  have ⟨N', S, hN, ok2⟩ := ok.body
  lam_th (cw := rp.fm) C S hN ok.clo rp.len off (fun i d e => rp.val i d e) ok.bind fun A outer s H E f c' hr => ok2 rp.fm rfl A outer s H E f c' hr

/-- behind such a call -/
theorem back_P (C : CellT X σ T) {H' : Hp} (rp : Rep X.K c H0 O H σ ρ) (i : (rp.fm.pinned T).I H') (ex : Ex c.S (plus T H) H') (off : Off T H) : Ex c.S H (minus T H') ∧ Rep X.K c H0 O (minus T H') σ ρ := by
  have e : Ex c.S H (minus T H') := fun a o q n => by
    cases z : T.lookup a with
    | some ob => rw [off a ob z] at q; cases q
    | none => rw [minus_out z]; exact ex a o (by rw [plus_out z]; exact q) n
  exact ⟨e, rp.up e i.1.1⟩
def dGotP (K : PySem.W.Frag) (cs : List Value) (ns : List Str) (fT : FldT) (LT : List (LamD × DEX)) (da : DA) : DE := fun ρ P => da ρ fun xs b => b = false ∧ ∃ x ∈ LT, xs = [.lam x.1] ∧ x.2 (erGot K cs ns fT fun d => P d false) (strip ρ) fun d _ => P (.tup [.str "", d]) false
theorem sim_gotP {cs : List Value} {ns : List Str} {fT : FldT} {LT : List (LamD × DEX)} {E : XK} {t : TA} {da : DA} (hLT : ∀ x ∈ LT, LamOk X kk c.bag x.1 x.2) (ha : SimA X.K c H0 t da) :
    SimE X.K c H0 (tCallP X (spGot X.prog X.w X.K X.mg X.base (kk + 1) cs ns fT) E t) (dGotP X.K cs ns fT LT da) := by
  intro ρ Pd h O σ H Q rp q
  refine ha ρ _ h O σ H _ rp fun vs xs b H1 h1 rp1 e1 rx => ?_
  obtain ⟨rfl, x, hx, rfl, h1⟩ := h1
  obtain ⟨v, r, rfl, rv, hr⟩ := rx
  have hr : r = [] := hr
  subst hr
  intro T C off
  refine ⟨rp1.fm.pinned T, x.1, _, fun d => Pd d false, v, rfl, ⟨by rw [minus_plus off]; exact ⟨rp1.inv, rp1.liv⟩, on_plus⟩, R.grow (fun a o e => ?_) _ _ rv, lam_thL0 (hLT x hx) C off rp1, h1, fun v d H' hp i ex r => ⟨i.2, ?_⟩⟩
  · obtain ⟨n, e⟩ := but_some e
    exact but_of n (plus_ge off _ _ e)
  · obtain ⟨e2, rp2⟩ := back_P C rp1 i ex off
    exact q v d false _ hp rp2 (e1.trans e2) (R.gc (gc_minus C i.2 _) d v r)
def allGoX (K : PySem.W.Frag) (cs : List Value) (ns : List Str) (fT : FldT) (ρ : DEnv) (Pd : D → Prop) : List (LamD × DEX) → List D → Prop
  | [], acc => Pd (.lst acc)
  | x :: r, acc => x.2 (erGot K cs ns fT fun d => allGoX K cs ns fT ρ Pd r (acc ++ [d])) ρ fun d _ => allGoX K cs ns fT ρ Pd r (acc ++ [.tup [.str "", d]])
theorem allGo_map {K : PySem.W.Frag} {cs : List Value} {ns : List Str} {fT : FldT} {ρ : DEnv} {Pd : D → Prop} : ∀ (l : List (LamD × DEX)) (acc : List D), allGo K cs ns fT Pd (l.map fun x => (x.1, fun Pd Er => x.2 Er ρ fun d _ => Pd d)) acc = allGoX K cs ns fT ρ Pd l acc
  | [], acc => rfl
  | x :: l, acc => by
    show x.2 (erGot K cs ns fT fun d => allGo K cs ns fT Pd (l.map fun x => (x.1, fun Pd Er => x.2 Er ρ fun d _ => Pd d)) (acc ++ [d])) ρ (fun d _ => allGo K cs ns fT Pd (l.map fun x => (x.1, fun Pd Er => x.2 Er ρ fun d _ => Pd d)) (acc ++ [.tup [.str "", d]])) = _
    have e1 : (fun d => allGo K cs ns fT Pd (l.map fun x => (x.1, fun Pd Er => x.2 Er ρ fun d _ => Pd d)) (acc ++ [d])) = fun d => allGoX K cs ns fT ρ Pd l (acc ++ [d]) := funext fun d => allGo_map l _
    have e2 : (fun (d : D) (_ : Bool) => allGo K cs ns fT Pd (l.map fun x => (x.1, fun Pd Er => x.2 Er ρ fun d _ => Pd d)) (acc ++ [.tup [.str "", d]])) = fun d _ => allGoX K cs ns fT ρ Pd l (acc ++ [.tup [.str "", d]]) := funext fun d => funext fun _ => allGo_map l _
    rw [e1, e2]
    rfl
def dAllGotP (K : PySem.W.Frag) (cs : List Value) (ns : List Str) (fT : FldT) (LT : List (LamD × DEX)) (da : DA) : DE := fun ρ P => da ρ fun xs b => b = false ∧ ∃ LB : List (LamD × DEX), xs = [.lst (LB.map fun x => .lam x.1)] ∧ (∀ x ∈ LB, x ∈ LT) ∧ LB.length ≤ 1000 ∧ allGoX K cs ns fT (strip ρ) (fun d => P d false) LB []
theorem sim_allGotP {cs : List Value} {ns : List Str} {fT : FldT} {LT : List (LamD × DEX)} {E : XK} {t : TA} {da : DA} (hLT : ∀ x ∈ LT, LamOk X kk c.bag x.1 x.2) (ha : SimA X.K c H0 t da) :
    SimE X.K c H0 (tCallP X (spAllGot X.prog X.w X.K X.mg X.base (kk + 1) cs ns fT) E t) (dAllGotP X.K cs ns fT LT da) := by
  intro ρ Pd h O σ H Q rp q
  refine ha ρ _ h O σ H _ rp fun vs xs b H1 h1 rp1 e1 rx => ?_
  obtain ⟨rfl, LB, rfl, hm, hl, h1⟩ := h1
  obtain ⟨v, r, rfl, rv, hr⟩ := rx
  have hr : r = [] := hr
  subst hr
  intro T C off
  refine ⟨rp1.fm.pinned T, LB.map fun x => (x.1, fun Pd Er => x.2 Er (strip ρ) fun d _ => Pd d), fun d => Pd d false, v, rfl, ⟨by rw [minus_plus off]; exact ⟨rp1.inv, rp1.liv⟩, on_plus⟩, ?_, by rw [List.length_map]; exact hl, fun y hy => ?_, by rw [allGo_map]; exact h1, fun v d H' hp i ex r => ⟨i.2, ?_⟩⟩
  · rw [List.map_map]
    refine R.grow (fun a o e => ?_) _ _ rv
    obtain ⟨n, e⟩ := but_some e
    exact but_of n (plus_ge off _ _ e)
  · obtain ⟨x, hx, rfl⟩ := List.mem_map.mp hy
    exact lam_thA (hLT x (hm x hx)) C off rp1
  · obtain ⟨e2, rp2⟩ := back_P C rp1 i ex off
    exact q v d false _ hp rp2 (e1.trans e2) (R.gc (gc_minus C i.2 _) d v r)
end
end QD

/-! QD35: the same with a bag that is named; in any list of plain data; places of a text; Go for what QD22 to QD34 bring. -/
namespace QD
open PySem L2 PyProof.Rows PySem.Spec
section
variable {K : PySem.W.Frag} {c : Fm} {H0 : Hp} {ta tb : TE} {bag : Option (Addr × Addr)}
theorem sim_callB {n : Nat} {dT : DF} {dvs : List V} {dd : List D} {E : XK} {t : TA} {da : DA} (hb : c.bag = bag) (hd : ∀ H, RA K H dd dvs) (ha : SimA K c H0 t da) : SimE K c H0 (tCall (spD K n dT) dvs E t) (dCall bag n dT dd da) := by
  subst hb; exact sim_callD hd ha
theorem sim_callXB {n : Nat} {dT : DF} {dvs : List V} {dd : List D} {E : XK} {Er : DEr} {t : TA} {da : DA} (hb : c.bag = bag) (hE : ErOk K c H0 E Er) (hd : ∀ H, RA K H dd dvs) (ha : SimA K c H0 t da) : SimE K c H0 (tCall (spD K n dT) dvs E t) (dCallX bag n dT dd da Er) := by
  subst hb; exact sim_callX hE hd ha
theorem sim_callKXB {n m : Nat} {dT : DF} {E : XK} {Er : DEr} {tk : TA} {dk : DA} (hb : c.bag = bag) (hE : ErOk K c H0 E Er) (hk : SimA K c H0 tk dk) : SimE K c H0 (tCallN 0 m (spD K n dT) (fun _ zs => zs) E tNil tk) (dCallNX bag n 0 m dT (fun _ ys => ys) dNil dk Er) := by
  subst hb; exact sim_callKX hE hk
theorem sim_makeB {C : Addr} {n : Nat} {dT : DI0} {dvs : List V} {dd : List D} {E : XK} {t : TA} {da : DA} (hb : c.bag = bag) (hd : ∀ H, RA K H dd dvs) (ha : SimA K c H0 t da) : SimE K c H0 (tMake C (spI K C n dT) dvs E t) (dMake bag C n dT dd da) := by
  subst hb; exact sim_make hd ha
theorem sim_makeXB {C : Addr} {n : Nat} {dT : DI0} {dvs : List V} {dd : List D} {E : XK} {Er : DEr} {t : TA} {da : DA} (hb : c.bag = bag) (hE : ErOk K c H0 E Er) (hd : ∀ H, RA K H dd dvs) (ha : SimA K c H0 t da) : SimE K c H0 (tMake C (spI K C n dT) dvs E t) (dMakeX bag C n dT dd da Er) := by
  subst hb; exact sim_makeX hE hd ha
theorem sim_makeKXB {C : Addr} {n k m : Nat} {dT : DI0} {gV gW : List V → List V → List V} {gD : List D → List D → List D} {E : XK} {Er : DEr} {t tk : TA} {da dk : DA} (hb : c.bag = bag) (hE : ErOk K c H0 E Er) (hgV : ∀ x vs zs, vs.length = k → zs.length = m → gV (.ref x :: vs) zs = .ref x :: gW vs zs)
    (hg : ∀ {H : Hp} {xs ys : List D} {vs zs : List V}, xs.length = k → ys.length = m → RA K H xs vs → RA K H ys zs → RA K H (gD xs ys) (gW vs zs))
    (ha : SimA K c H0 t da) (hk : SimA K c H0 tk dk) : SimE K c H0 (tMakeK C k m (spI K C n dT) gV E t tk) (dMakeKX bag C n k m dT gD da dk Er) := by
  subst hb; exact sim_makeKX hE hgV hg ha hk
theorem sim_smethXB {C : Addr} {n : Nat} {dT : DF} {dvs : List V} {dd : List D} {do_ : DE} {E : XK} {Er : DEr} {t : TA} {dts : DA} (hb : c.bag = bag) (hE : ErOk K c H0 E Er) (hd : ∀ H, RA K H dd dvs) (ho : SimE K c H0 ta do_) (ha : SimA K c H0 t dts) :
    SimE K c H0 (fun σ H Q => ta σ H fun x H1 => x = .ref C ∧ t σ H1 fun vs H2 => spD K n dT (vs ++ dvs) H2 Q E) (dSMethX bag C n dT dd do_ dts Er) := by
  subst hb; exact sim_smethX hE hd ho ha
theorem sim_methXB {C : Addr} {m : Str} {n : Nat} {dT : DF} {dvs : List V} {dd : List D} {do_ : DE} {E : XK} {Er : DEr} {t : TA} {dts : DA} (hb : c.bag = bag) (hE : ErOk K c H0 E Er) (hd : ∀ H, RA K H dd dvs) (ho : SimE K c H0 ta do_) (ha : SimA K c H0 t dts) : SimE K c H0 (tMeth C m (spD K n dT) dvs E ta t) (dMethX bag C m n dT dd do_ dts Er) := by
  subst hb; exact sim_methX hE hd ho ha
/-! ### in a tuple or a list of plain data -/
def rInW (K : PySem.W.Frag) (neg : Bool) : R2 := fun x y H Q => ∃ (d : PyData) (ds : List PyData), Dp K H x d ∧ (Dp K H y (.tuple ds) ∨ Dp K H y (.list ds)) ∧ SeqAt.shaped d = true ∧ SeqAt.shaped (.tuple ds) = true ∧ SeqAt.shaped (.list ds) = true ∧ Q (.bl (if neg then !(ds.any fun z => PyData.eqv z d) else ds.any fun z => PyData.eqv z d)) H
theorem q_inW {X : Cx} (hu : X.A.units + 65 < cLine) : OpR X (compareOp .In) (rInW X.K false) := by
  intro pins s σ H x y v u Q I rx ry h
  obtain ⟨d, ds, hd, hy, s1, s2, s3, q⟩ := h
  obtain ⟨as, r1⟩ := Dp.reads I d x v hd rx
  rcases hy with hy | hy
  · obtain ⟨bs, r2⟩ := Dp.reads I (.tuple ds) y u hy ry
    exact SeqAt.in_tuple_reads r2 r1 (SeqAt.canLay_of_shaped s2) (SeqAt.canLay_of_shaped s1) (room_in_shaped s1 hu) ⟨.bl (ds.any fun z => PyData.eqv z d), H, I, rfl, q⟩
  · obtain ⟨bs, r2⟩ := Dp.reads I (.list ds) y u hy ry
    exact SeqAt.in_list_reads r2 r1 (SeqAt.canLay_of_shaped s3) (SeqAt.canLay_of_shaped s1) (room_in_shaped s1 hu) ⟨.bl (ds.any fun z => PyData.eqv z d), H, I, rfl, q⟩
theorem q_ninW {X : Cx} (hu : X.A.units + 65 < cLine) : OpR X (compareOp .NotIn) (rInW X.K true) := by
  intro pins s σ H x y v u Q I rx ry h
  obtain ⟨d, ds, hd, hy, s1, s2, s3, q⟩ := h
  obtain ⟨as, r1⟩ := Dp.reads I d x v hd rx
  rcases hy with hy | hy
  · obtain ⟨bs, r2⟩ := Dp.reads I (.tuple ds) y u hy ry
    exact SeqAt.notIn_tuple_reads r2 r1 (SeqAt.canLay_of_shaped s2) (SeqAt.canLay_of_shaped s1) (room_in_shaped s1 hu) ⟨.bl (!(ds.any fun z => PyData.eqv z d)), H, I, rfl, q⟩
  · obtain ⟨bs, r2⟩ := Dp.reads I (.list ds) y u hy ry
    exact SeqAt.notIn_list_reads r2 r1 (SeqAt.canLay_of_shaped s3) (SeqAt.canLay_of_shaped s1) (room_in_shaped s1 hu) ⟨.bl (!(ds.any fun z => PyData.eqv z d)), H, I, rfl, q⟩
def inW (x : D) (ds : List D) : Option Bool := match toPy x, toPys ds with
  | some p, some ps => if (SeqAt.shaped p && SeqAt.shaped (.tuple ps) && SeqAt.shaped (.list ps)) = true then some (ps.any fun z => PyData.eqv z p) else none
  | _, _ => none
def dInW (neg : Bool) : DR
  | x, .tup ds, P => optP (inW x ds) fun b => P (.bl (if neg then !b else b))
  | x, .lst ds, P => optP (inW x ds) fun b => P (.bl (if neg then !b else b))
  | _, _, _ => False
theorem inW_some {x : D} {ds : List D} {b : Bool} (h : inW x ds = some b) : ∃ p ps, toPy x = some p ∧ toPys ds = some ps ∧ SeqAt.shaped p = true ∧ SeqAt.shaped (.tuple ps) = true ∧ SeqAt.shaped (.list ps) = true ∧ b = ps.any fun z => PyData.eqv z p := by
  unfold inW at h
  split at h
  · rename_i p ps e1 e2
    split at h
    · rename_i hs
      simp only [Bool.and_eq_true] at hs
      cases h
      exact ⟨p, ps, e1, e2, hs.1.1, hs.1.2, hs.2, rfl⟩
    · cases h
  · cases h
theorem sr_inW {neg : Bool} : SimR K c H0 (rInW K neg) (dInW neg) := by
  intro x y P h O H Q v u b σ ρ rp rx ry q
  unfold dInW at h
  split at h
  · rename_i ds
    obtain ⟨r, e, h⟩ := optP_some h
    obtain ⟨p, ps, e1, e2, s1, s2, s3, rfl⟩ := inW_some e
    exact ⟨p, ps, R.dp x v p e1 rx.here, .inl (R.dp (.tup ds) u (.tuple ps) (by simp only [toPy, e2, Option.map_some]) ry.here), s1, s2, s3, q _ _ H h (Ex.refl H) rp.inv rfl⟩
  · rename_i ds
    obtain ⟨r, e, h⟩ := optP_some h
    obtain ⟨p, ps, e1, e2, s1, s2, s3, rfl⟩ := inW_some e
    exact ⟨p, ps, R.dp x v p e1 rx.here, .inr (R.dp (.lst ds) u (.list ps) (by simp only [toPy, e2, Option.map_some]) ry.here), s1, s2, s3, q _ _ H h (Ex.refl H) rp.inv rfl⟩
  · exact h.elim
end
theorem hu65 {A : Around} {k : Nat} (hr : Room k A) : A.units + 65 < cLine := by
  have := hr.un
  omega
theorem huH {A : Around} {k : Nat} (hr : L2H.RoomH k A) : A.units + 64 < cLine := by
  have := hr.un
  omega
/-! ### lambdas of a text -/
section
variable {X : Cx}
theorem pe_lamQ {c P : Addr} {L : LamD} {params : Arguments} {body : Expr} {scope : Scope} {pos : Pos} (hL : L = lamOf X params body scope none) (TB : LamX.TabB X.base X.mg c P) (hcode : X.env.code = .ref c) {N' : List Str} (hS : lamSB N' X.env.scope scope = true) (hdef : defaultsOf params X.env = ([], [])) : PE X (.Lambda params body scope pos) (tLamE P L) := by
  subst hL
  exact pe_lam TB hcode (lamS_by hS).free hdef
theorem pe_lamDQ {c P : Addr} {L : LamD} {params : Arguments} {body e : Expr} {scope : Scope} {pos : Pos} {k : Int} (hL : L = lamOf X params body scope (some k)) (TB : LamX.TabB X.base X.mg c P) (hcode : X.env.code = .ref c) {N' : List Str} (hS : lamSB N' X.env.scope scope = true) (he : PE X e (tC (.int k)))
    (hdf : params.defaults = [e]) (hkw : params.kw_defaults = []) (hko : params.kwonlyargs = []) (hev : evalEach [e] X.env = [eval e X.env]) : PE X (.Lambda params body scope pos) (tLamE P L) := by
  subst hL
  exact pe_lamD TB hcode (lamS_by hS).free he hdf hkw hko hev
theorem lamOk_ofN {kk : Nat} {bag : Option (Addr × Addr)} {L : LamD} {params : Arguments} {body : Expr} {scope : Scope} {dfl : Option Int} {de : DEX} (hL : L = lamOf X params body scope dfl) {N' : List Str} (hN : MaskN X.N N' scope) (hS : lamSB N' X.env.scope scope = true)
    (hb : (dfl = none ∧ ∀ (q : Str) (cl : List (Str × Addr)) (doc pm cv ct : Value), bindArgs (PySem.W.kdv_fn "<lambda>" q params (.expr body) scope cl .none doc pm cv ct) ⟨[], []⟩ = pure []) ∨
      ∃ k x, dfl = some k ∧ scope.names.lookup x = some .local ∧ ∀ (q : Str) (cl : List (Str × Addr)) (t : Addr) (doc pm cv ct u : Value), ∃ kf, bindArgs (PySem.W.kdv_fn "<lambda>" q params (.expr body) scope cl (.ref t) doc pm cv ct) ⟨[], []⟩ = seqItems? (.ref t) >>= kf ∧ kf (some #[u]) = pure [(x, u)])
    (hbody : ∀ (cw : Fm), cw.bag = bag → ∀ (A : Around) (outer : List Env) (s : Shared) (H : Hp) (E : XK) (f c' : Addr), Room kk (A.deeper (PySem.W.envX (lamOf X params body scope dfl).q scope s.heap.objs.size f (.ref c') (lamOf X params body scope dfl).clo)) →
      ∃ te, PE (lamCy X A outer s H E (lamOf X params body scope dfl) f c' N') body te ∧ ∀ Er, ErOk X.K cw H E Er → SimE X.K cw H te (de Er)) :
    ∃ de' : DEX, LamOk X kk bag L de' ∧ ∀ Er ρ P, de Er ρ P → de' Er ρ P := by
  subst hL
  refine ⟨de, ⟨rfl, ?_, N', lamS_by hS, hN, hbody⟩, fun _ _ _ h => h⟩
  rcases hb with ⟨rfl, h⟩ | ⟨k, x, rfl, hx, h⟩
  · exact bind_0 rfl fun doc pm cv ct => h _ _ doc pm cv ct
  · exact bind_k (x := x) rfl hx fun t doc pm cv ct u => h _ _ t doc pm cv ct u
theorem lamOk_of {kk : Nat} {bag : Option (Addr × Addr)} {L : LamD} {params : Arguments} {body : Expr} {scope : Scope} {dfl : Option Int} {de : DEX} (hL : L = lamOf X params body scope dfl) (hS : lamSB X.N X.env.scope scope = true)
    (hb : (dfl = none ∧ ∀ (q : Str) (cl : List (Str × Addr)) (doc pm cv ct : Value), bindArgs (PySem.W.kdv_fn "<lambda>" q params (.expr body) scope cl .none doc pm cv ct) ⟨[], []⟩ = pure []) ∨
      ∃ k x, dfl = some k ∧ scope.names.lookup x = some .local ∧ ∀ (q : Str) (cl : List (Str × Addr)) (t : Addr) (doc pm cv ct u : Value), ∃ kf, bindArgs (PySem.W.kdv_fn "<lambda>" q params (.expr body) scope cl (.ref t) doc pm cv ct) ⟨[], []⟩ = seqItems? (.ref t) >>= kf ∧ kf (some #[u]) = pure [(x, u)])
    (hbody : ∀ (cw : Fm), cw.bag = bag → ∀ (A : Around) (outer : List Env) (s : Shared) (H : Hp) (E : XK) (f c' : Addr), Room kk (A.deeper (PySem.W.envX (lamOf X params body scope dfl).q scope s.heap.objs.size f (.ref c') (lamOf X params body scope dfl).clo)) →
      ∃ te, PE (lamCy X A outer s H E (lamOf X params body scope dfl) f c' X.N) body te ∧ ∀ Er, ErOk X.K cw H E Er → SimE X.K cw H te (de Er)) :
    ∃ de' : DEX, LamOk X kk bag L de' ∧ ∀ Er ρ P, de Er ρ P → de' Er ρ P := lamOk_ofN hL mask_self hS hb hbody
/-- the table of a law's lambdas -/
theorem lt_nil {kk : Nat} {bag : Option (Addr × Addr)} : ∀ x ∈ ([] : List (LamD × DEX)), LamOk X kk bag x.1 x.2 := fun x h => by simp at h
theorem lt_cons {kk : Nat} {bag : Option (Addr × Addr)} {L : LamD} {de : DEX} {LT : List (LamD × DEX)} (h : LamOk X kk bag L de) (r : ∀ x ∈ LT, LamOk X kk bag x.1 x.2) : ∀ x ∈ (L, de) :: LT, LamOk X kk bag x.1 x.2 := fun x hx => by
  rcases List.mem_cons.mp hx with rfl | hx
  · exact h
  · exact r x hx
end
/-! ### places in a text -/
def xBody : Stmt → List Stmt
  | .For _ _ b _ _ => b
  | .While _ b _ _ => b
  | .If _ b _ _ => b
  | _ => []
def xElse : Stmt → List Stmt
  | .For _ _ _ b _ => b
  | .While _ _ b _ => b
  | .If _ _ b _ => b
  | _ => []
def xNo : Expr := .Constant .none 0 ⟨0, 0, 0, 0⟩
def xVal : Stmt → Expr
  | .Assign _ e _ => e
  | .Expr e _ => e
  | .Return (some e) _ => e
  | .If e _ _ _ => e
  | .While e _ _ _ => e
  | .For _ e _ _ _ => e
  | _ => xNo
def xSub : Expr → Nat → Expr
  | .List es _, i => es.getD i xNo
  | .Tuple es _ _, i => es.getD i xNo
  | .BinOp a _ b _, i => if i = 0 then a else b
  | .UnaryOp _ a _, _ => a
  | .Call f es _ _, i => if i = 0 then f else es.getD (i - 1) xNo
  | .BoolOp _ es _, i => es.getD i xNo
  | .IfExp a b c _, i => if i = 0 then a else if i = 1 then b else c
  | .Compare a _ es _, i => if i = 0 then a else es.getD (i - 1) xNo
  | .Subscript a b _, i => if i = 0 then a else b
  | .Attribute a _ _, _ => a
  | _, _ => xNo
def xArgs : Expr → Arguments
  | .Lambda p _ _ _ => p
  | _ => ⟨[], [], none, [], [], none, []⟩
def xLam : Expr → Expr
  | .Lambda _ b _ _ => b
  | _ => xNo
def xScope (d : Scope) : Expr → Scope
  | .Lambda _ _ s _ => s
  | _ => d
end QD

/-! QD36: Go for raises, calls that may raise, lambdas; errors' messages; how an error's __init__ binds. -/
namespace QD
open PySem L2 PyProof.Rows PySem.Spec
section
variable {K : PySem.W.Frag} {a b e f : DE} {da dk : DA} {Dd : DEnds} {ρ : DEnv} {P : D → Bool → Prop} {Pd : D → Prop} {x y d : D} {xs ys ds : List D} {i n m k : Nat} {C : Addr} {fs : List (Str × D)} {g : Str} {bag : Option (Addr × Addr)} {dT : DF} {dI : DI0} {dd : List D} {Er : DEr} {neg : Bool} {cs : List Value} {ns : List Str} {fT : FldT} {LT : List (LamD × DEX)} {L : LamD}
theorem go_lam : Go (dLam L ρ P) = Go (P (.lam L) false) := (rfl)
theorem go_xf {al : Addr} : Go (dXf i al fs g ρ P) = Go (ρ[i]? = some (some (Ent.val (.raw (.ref al)))) ∧ optP (fs.lookup g) fun z => P z false) := (rfl)
theorem go_raise {dE : List D → (List (Str × D) → Prop) → Prop} : Go (dRaise C n dE da Er Dd ρ) = Go (da ρ fun xs _ => xs.length = n ∧ dE xs (Er C)) := (rfl)
theorem go_callX : Go (dCallX bag n dT dd da Er ρ P) = Go (da ρ fun xs b => (xs ++ dd).length = n ∧ dT bag (xs ++ dd) (fun z => P z (dirt z b)) Er) := (rfl)
theorem go_callNX {gD : List D → List D → List D} : Go (dCallNX bag n k m dT gD da dk Er ρ P) = Go (da ρ fun xs b => dk ρ fun ys b' => (xs.length = k ∧ ys.length = m) ∧ (gD xs ys).length = n ∧ dT bag (gD xs ys) (fun z => P z (dirt z (b || b'))) Er) := (rfl)
theorem go_smethX : Go (dSMethX bag C n dT dd a da Er ρ P) = Go (a ρ fun x _ => isRaw C x ∧ da ρ fun xs b => (xs ++ dd).length = n ∧ dT bag (xs ++ dd) (fun z => P z (dirt z b)) Er) := (rfl)
theorem go_methX : Go (dMethX bag C g n dT dd a da Er ρ P) = Go (a ρ fun x b0 => asIns C x fun fs => fs.lookup g = none ∧ da ρ fun xs b => (x :: xs ++ dd).length = n ∧ dT bag (x :: xs ++ dd) (fun z => P z (dirt z (b0 || b))) Er) := (rfl)
theorem go_makeX : Go (dMakeX bag C n dI dd da Er ρ P) = Go (da ρ fun xs b => (xs ++ dd).length = n ∧ dI bag (xs ++ dd) (fun fs => P (.ins C fs) b) Er) := (rfl)
theorem go_makeKX {gD : List D → List D → List D} : Go (dMakeKX bag C n k m dI gD da dk Er ρ P) = Go (da ρ fun xs b => dk ρ fun ys b' => (xs.length = k ∧ ys.length = m) ∧ (gD xs ys).length = n ∧ dI bag (gD xs ys) (fun fs => P (.ins C fs) (b || b')) Er) := (rfl)
theorem go_gotP : Go (dGotP K cs ns fT LT da ρ P) = Go (da ρ fun xs b => b = false ∧ ∃ x ∈ LT, xs = [.lam x.1] ∧ x.2 (erGot K cs ns fT fun d => P d false) (strip ρ) fun d _ => P (.tup [.str "", d]) false) := (rfl)
theorem go_allGotP : Go (dAllGotP K cs ns fT LT da ρ P) = Go (da ρ fun xs b => b = false ∧ ∃ LB : List (LamD × DEX), xs = [.lst (LB.map fun x => .lam x.1)] ∧ (∀ x ∈ LB, x ∈ LT) ∧ LB.length ≤ 1000 ∧ allGoX K cs ns fT (strip ρ) (fun d => P d false) LB []) := (rfl)
theorem go_inWT : Go (dInW neg x (.tup ds) Pd) = Go (optP (inW x ds) fun b => Pd (.bl (if neg then !b else b))) := (rfl)
theorem go_inWL : Go (dInW neg x (.lst ds) Pd) = Go (optP (inW x ds) fun b => Pd (.bl (if neg then !b else b))) := (rfl)
theorem strip_nil : strip [] = [] := (rfl)
theorem strip_val {r : DEnv} : strip (some (Ent.val d) :: r) = some (Ent.val d) :: strip r := (rfl)
theorem strip_own {r : DEnv} : strip (some (Ent.own d) :: r) = none :: strip r := (rfl)
theorem strip_none {r : DEnv} : strip (none :: r) = none :: strip r := (rfl)
end
/-- C(d) is raised -/
theorem dtErr_1 {f code : Str} {k : Nat} {d : D} {P : List (Str × D) → Prop} (h1 : pl d = true) (h2 : dep d < k) (h3 : showD d = true) (h : P [("code", .str code), (f, d)]) : dtErr [f] code k [d] P := ⟨rfl, fun x hx => by rw [List.mem_singleton.mp hx]; exact ⟨h1, h2, h3⟩, h⟩
theorem dtErr_2 {f g code : Str} {k : Nat} {d e : D} {P : List (Str × D) → Prop} (h1 : pl d = true) (h2 : dep d < k) (h3 : showD d = true) (h4 : pl e = true) (h5 : dep e < k) (h6 : showD e = true) (h : P [("code", .str code), (g, e), (f, d)]) : dtErr [f, g] code k [d, e] P := ⟨rfl, fun x hx => by
  simp only [List.mem_cons, List.not_mem_nil, or_false] at hx
  rcases hx with rfl | rfl
  · exact ⟨h1, h2, h3⟩
  · exact ⟨h4, h5, h6⟩, h⟩
/-! ### an error's message -/
inductive JPart where | txt (s : Str) | arg (i : Nat)
def JPart.de : JPart → DE
  | .txt s => dC (.str s)
  | .arg i => dFmtA (dVar i)
def JPart.cost : JPart → Nat
  | .txt s => s.length
  | .arg _ => 1200000
def jcost (ps : List JPart) : Nat := (ps.map JPart.cost).sum
theorem js_ok {ρ : DEnv} : ∀ (ps : List JPart) (acc : Str) (P : Str → Prop), (∀ s, P s) → (∀ i, JPart.arg i ∈ ps → ∃ d, ρ[i]? = some (some (Ent.val d)) ∧ showD d = true) → acc.length + jcost ps ≤ sizeLine → dJs (ps.map JPart.de) acc ρ P
  | [], acc, P, hP, _, _ => hP acc
  | .txt s :: ps, acc, P, hP, h, hz => by
    have e : jcost (.txt s :: ps) = s.length + jcost ps := by unfold jcost; rw [List.map_cons, List.sum_cons]; rfl
    rw [e] at hz
    refine ⟨by rw [strLen_append]; omega, js_ok ps _ P hP (fun i hi => h i (List.mem_cons_of_mem _ hi)) (by rw [strLen_append]; omega)⟩
  | .arg i :: ps, acc, P, hP, h, hz => by
    have e : jcost (.arg i :: ps) = 1200000 + jcost ps := by unfold jcost; rw [List.map_cons, List.sum_cons]; rfl
    rw [e] at hz
    obtain ⟨d, hd, hs⟩ := h i List.mem_cons_self
    show getE ρ[i]? _
    rw [hd]
    refine ⟨hs, fun m hm => ⟨by rw [strLen_append]; omega, js_ok ps _ P hP (fun i hi => h i (List.mem_cons_of_mem _ hi)) (by rw [strLen_append]; omega)⟩⟩
/-! ### binding -/
theorem ErrI.binds {P : Program} {K : PySem.W.Frag} {C : Addr} {qual : Str} {params : Arguments} {st0 : Stmt} {rest : List Stmt} {scope : Scope} {f : Addr} {fd : FuncData} {cc cda : Addr} (T : ErrI P K C qual params st0 rest scope f fd cc cda) {ps : List Str}
    (h : ∀ (dV kV doc pm : Value) (an : Option Addr) (ct : Value) (us : List Value), us.length = ps.length → bindArgs (PySem.W.ksFn "__init__" qual params (st0 :: rest) scope dV kV doc pm an (.ref cda) ct cc) ⟨us, []⟩ = pure (ps.zip us)) : Binds K fd ps [] := by
  obtain ⟨oc, od, dV, kV, doc, pm, an, ct, osl, rfl, lk⟩ := T.fn
  intro s us X hl
  rw [List.append_nil]
  exact .of_eq (h dV kV doc pm an ct us (by simpa using hl))
/-- a law: its code is known by its address -/
theorem law_ok {P : Program} {w : World} {K : PySem.W.Frag} {mg : Str → Option Value} {base : Heap} {x qual : Str} {st : Stmt} {f cc : Addr} {fd : FuncData} {N ps : List Str} {k : Nat} {sp : Sp} (F : ∃ (oc : Value) (od : Option Addr) (kV doc pm : Value) (an : Option Addr) (ct : Value) (osl : Array (Option Value)), fd = PySem.W.fnOf x qual (defArgs st) (defBody st) (defScope st) .none kV doc pm an (.ref cc) ct ∧ K.lookup f = some ⟨oc, od, .func fd, osl⟩ ∧ PySem.W.codeIn K (.ref cc) qual = true)
    (S : FnScope N ps (defScope st)) (len : ∀ vs H Q E, sp vs H Q E → vs.length = ps.length)
    (hbody : ∀ (A : Around) (outer : List Env) (s : Shared) (H : Hp) (vs : List V) (Q : VK) (E : XK), Room k (A.deeper (envOfC qual (defScope st) s.heap.objs.size f (.ref cc))) → sp vs H Q E →
      ∃ t, PSs (cxOf CX0 P w K mg base N qual (defScope st) f (.ref cc) A outer s H E).nox (defBody st) t ∧ t { nx := fun _ H' => Q .non H', rt := Q } (L2.start N vs) H) : FnOk P w K mg base CX0 (k + 1) f fd ps sp := by
  obtain ⟨oc, od, kV, doc, pm, an, ct, osl, rfl, lk, hcd⟩ := F
  refine fn_of lk hcd S len fun A outer s H vs Q E hr h => ?_
  obtain ⟨t, ht, hq⟩ := hbody A outer s H vs Q E hr h
  exact ⟨t, ht.nox, hq⟩
theorem passOwnX {P : Program} {w : World} {K : PySem.W.Frag} {mg : Str → Option Value} {base : Heap} {N : List Str} {qual : Str} {scope : Scope} {f : Addr} {cd : Value} {A : Around} {outer : List Env} {s : Shared} {H : Hp} {E : XK} : PassesOwn (model P w) (cxOf (CXR P w) P w K mg base N qual scope f cd A outer s H E).A (cxOf (CXR P w) P w K mg base N qual scope f cd A outer s H E).env (cxOf (CXR P w) P w K mg base N qual scope f cd A outer s H E).xe :=
  passes_of (X := cxOf (CXR P w) P w K mg base N qual scope f cd A outer s H E) rfl
end QD

/-! QD37: what a law reads of an error, by a table. -/
namespace QD
open PySem L2 PyProof.Rows PySem.Spec
def look (fs : List (Str × D)) : List Str → Option (List D)
  | [] => some []
  | a :: r => match fs.lookup a, look fs r with
    | some d, some ds => some (d :: ds)
    | _, _ => none
theorem look0 {fs : List (Str × D)} {xs : List D} (h : look fs [] = some xs) : xs = [] := by cases h; rfl
theorem look1 {fs : List (Str × D)} {a : Str} {xs : List D} (h : look fs [a] = some xs) : ∃ d, fs.lookup a = some d ∧ xs = [d] := by
  simp only [look] at h
  split at h
  · rename_i d ds e1 e2
    cases e2
    cases h
    exact ⟨d, e1, rfl⟩
  · cases h
theorem look2 {fs : List (Str × D)} {a b : Str} {xs : List D} (h : look fs [a, b] = some xs) : ∃ d, fs.lookup a = some d ∧ ∃ e, fs.lookup b = some e ∧ xs = [d, e] := by
  rw [look] at h
  split at h
  · rename_i d ds e1 e2
    obtain ⟨e, e3, rfl⟩ := look1 e2
    cases h
    exact ⟨d, e1, e, e3, rfl⟩
  · cases h
/-- tab: of which code which attributes are read -/
def fldBy (tab : List (Str × List Str)) : FldT := fun _ fs Pd => ∃ code as, (code, as) ∈ tab ∧ fs.lookup ("code" : Str) = some (D.str code) ∧ ∃ xs, look fs as = some xs ∧ Pd (.tup xs)
theorem fldBy_mono {tab : List (Str × List Str)} : MonoF (fldBy tab) := fun C fs P P' h ⟨code, as, h1, h2, xs, h3, h4⟩ => ⟨code, as, h1, h2, xs, h3, h _ h4⟩
theorem exm3 {K : PySem.W.Frag} {cls c1 c2 c3 : Value} {b1 b2 b3 : Bool} (h1 : PySem.W.exmOne K cls c1 = some b1) (h2 : PySem.W.exmOne K cls c2 = some b2) (h3 : PySem.W.exmOne K cls c3 = some b3) (h : (b1 || (b2 || b3)) = true) : PySem.W.exmAny K cls [c1, c2, c3] = some true := by
  unfold PySem.W.exmAny
  simp [h1, h2, h3, PySem.W.exmAny, h]
/-- an error of one of the classes that a clause names -/
theorem er_got {K : PySem.W.Frag} {cs : List Value} {ns : List Str} {tab : List (Str × List Str)} {P : D → Prop} {C : Addr} {fs : List (Str × D)} {code : Str} {as : List Str} {xs : List D} (hc : ErCl K cs ns C) (hm : (code, as) ∈ tab) (hl : fs.lookup ("code" : Str) = some (D.str code)) (hx : look fs as = some xs) (h : P (.tup [.str code, .tup xs])) : erGot K cs ns (fldBy tab) P C fs :=
  ⟨hc, code, hl, code, as, hm, hl, xs, hx, h⟩
/-! ### in a written dict, or not -/
def keyStr : Value → Option Str
  | .str x _ => some x
  | _ => none
theorem ns_no {K : PySem.W.Frag} {a : Addr} {cls : Value} {od : Option Addr} {es : Array DictEntry} {n : Nat} {sl : Array (Option Value)} (D : K.lookup a = some ⟨cls, od, .dict es n, sl⟩) {ks : List Str} (h : es.toList.map (fun e => keyStr e.key) = ks.map some) {z : Str} (hz : z ∉ ks) : PySem.W.nsIn K a z = some none := by
  have key : ∀ e ∈ es.toList, ∃ x t, e.key = .str x t ∧ x ≠ z := fun e he => by
    have : keyStr e.key ∈ ks.map some := h ▸ List.mem_map.mpr ⟨e, he, rfl⟩
    obtain ⟨x, hx, e2⟩ := List.mem_map.mp this
    cases q : e.key with
    | str y t =>
      rw [q] at e2
      have e2 : some x = some y := e2
      cases e2
      exact ⟨x, t, rfl, fun w => hz (w ▸ hx)⟩
    | _ =>
      rw [q] at e2
      cases e2
  have h1 : List.find? (fun x => x.key.isStr z) es.toList = none := List.find?_eq_none.mpr fun e he => by
    obtain ⟨x, t, e1, e2⟩ := key e he
    rw [e1]
    simp [Value.isStr, e2]
  have h2 : (es.toList.any fun x => x.refKey) = false := List.any_eq_false.mpr fun e he => by
    obtain ⟨x, t, e1, e2⟩ := key e he
    simp [DictEntry.refKey, e1]
  unfold PySem.W.nsIn
  rw [D]
  simp only [h1, h2]
  rfl
def dInK2 (neg : Bool) (a : Addr) (tab : List (Str × D)) : DR := fun x y P => isRaw a y ∧ asStr x fun z => P (.bl (if neg then !(tab.lookup z).isSome else (tab.lookup z).isSome))
theorem sr_inK2 {K : PySem.W.Frag} {c : Fm} {H0 : Hp} {w : World} {neg : Bool} {a : Addr} {tab : List (Str × D)} (T : KTab K w a tab) (N : ∀ z : Str, tab.lookup z = none → PySem.W.nsIn K a z = some none) : SimR K c H0 (rInK K neg a) (dInK2 neg a tab) := by
  intro x y P h O H Q v u b σ ρ rp rx ry q
  obtain ⟨hy, h0⟩ := h
  cases x with
  | str z =>
    cases e : tab.lookup z with
    | none =>
      have h0 : P (.bl (if neg then !(tab.lookup z).isSome else (tab.lookup z).isSome)) := h0
      rw [e] at h0
      exact ⟨z, none, rx, isRaw_of hy ry.here, N z e, q _ _ H h0 (Ex.refl H) rp.inv rfl⟩
    | some d =>
      have h0 : P (.bl (if neg then !(tab.lookup z).isSome else (tab.lookup z).isSome)) := h0
      rw [e] at h0
      obtain ⟨u0, v0, e1, _, _⟩ := T.val _ (lookup_mem e)
      exact ⟨z, some u0, rx, isRaw_of hy ry.here, e1, q _ _ H h0 (Ex.refl H) rp.inv rfl⟩
  | _ => exact h0.elim
theorem go_inK2 {neg : Bool} {al : Addr} {tab : List (Str × D)} {z : Str} {Pd : D → Prop} : Go (dInK2 neg al tab (.str z) (.raw (.ref al)) Pd) = Go (Pd (.bl (if neg then !(tab.lookup z).isSome else (tab.lookup z).isSome))) := by
  unfold Go dInK2 isRaw asStr
  simp
/-- an error's __init__ without defaults: how it binds -/
theorem err_binds {K : PySem.W.Frag} {qual : Str} {params : Arguments} {body : List Stmt} {scope : Scope} {f : Addr} {fd : FuncData} {cc cda : Addr} (T : ∃ (oc : Value) (od : Option Addr) (kV doc pm : Value) (an : Option Addr) (ct : Value) (osl : Array (Option Value)), fd = PySem.W.ksFn "__init__" qual params body scope .none kV doc pm an (.ref cda) ct cc ∧ K.lookup f = some ⟨oc, od, .func fd, osl⟩) {ps : List Str}
    (h : ∀ (kV doc pm : Value) (an : Option Addr) (ct : Value) (us : List Value), us.length = ps.length → bindArgs (PySem.W.ksFn "__init__" qual params body scope .none kV doc pm an (.ref cda) ct cc) ⟨us, []⟩ = pure (ps.zip us)) : Binds K fd ps [] := by
  obtain ⟨oc, od, kV, doc, pm, an, ct, osl, rfl, lk⟩ := T
  intro s us X hl
  rw [List.append_nil]
  exact .of_eq (h kV doc pm an ct us (by simpa using hl))
theorem roomM {A : Around} {j k : Nat} {h : Option Value} (hr : Room k A) (hj : j ≤ k) : L2H.RoomH j (A.mark h) := ⟨(hr.mono hj).dp, (hr.mono hj).un⟩
end QD

/-! QD38: set(..) of texts; how many different ones there are. -/
namespace QD
open PySem L2 PyProof.Rows PySem.Spec
section
variable {κ : Type} [DecidableEq κ]
def stepK (σ : List κ) (v : κ) : List κ := if v ∈ σ then σ else σ ++ [v]
/-- the different ones, as they are met -/
def distK (ks : List κ) : List κ := ks.foldl stepK []
theorem stepK_mem {σ : List κ} {v k : κ} : (k ∈ stepK σ v) ↔ (k ∈ σ ∨ k = v) := by
  unfold stepK
  split
  · exact ⟨.inl, fun h => h.elim id fun e => by rw [e]; assumption⟩
  · simp
theorem stepK_len {σ : List κ} {v : κ} : (stepK σ v).length = if v ∈ σ then σ.length else σ.length + 1 := by
  unfold stepK
  split <;> simp
theorem distK_succ {ks : List κ} {i : Nat} {v : κ} (h : ks[i]? = some v) : distK (ks.take (i + 1)) = stepK (distK (ks.take i)) v := by
  have e : ks.take (i + 1) = ks.take i ++ [v] := by
    rw [List.take_add_one, h]; rfl
  unfold distK
  rw [e, List.foldl_append]
  rfl
theorem distK_le {ks : List κ} : (distK ks).length ≤ ks.length := by
  suffices h : ∀ (ks σ : List κ), (ks.foldl stepK σ).length ≤ σ.length + ks.length by have := h ks []; simpa [distK] using this
  intro ks
  induction ks with
  | nil => intro σ; simp
  | cons v r ih =>
    intro σ
    have h1 := ih (stepK σ v)
    have h2 := stepK_len (σ := σ) (v := v)
    simp only [List.foldl_cons, List.length_cons]
    split at h2 <;> omega
end
section
variable {P : Program} {w : World} {κ : Type} [DecidableEq κ] [BEq κ] [LawfulBEq κ] {knd : KeyKind P w κ}
theorem upd_loopK {A : Around} {R : Result → Shared → Prop} {I : Addr} {fp wr : List Addr} {G : Array GenState → Array GenState → Prop} {n : Nat} {Pv : Nat → Value → Prop} {St : Nat → Shared → Prop} (W : WalksS P w A.in1 I fp wr G n Pv St) (S : Addr) (hSf : S ∉ fp) (ks : List κ) (hn : n = ks.length)
    (hval : ∀ i v, Pv i v → ∃ k, ks[i]? = some k ∧ knd.is k v = true ∧ v.scannable = true) (hb : n + 1 < scanBound) : ∀ (k i : Nat) (s : Shared), n - i = k → i ≤ n → St i s → Heap.SetOf knd s.heap S (fun x => decide (x ∈ distK (ks.take i))) (distK (ks.take i)).length →
      (∀ s', Moved (S :: wr) G s s' → Heap.SetOf knd s'.heap S (fun x => decide (x ∈ distK ks)) (distK ks).length → R (.ok (.ret .none)) s') → codeAny (model P w) A (.builtin "set.update.loop" ⟨[.ref S, .ref I], []⟩) R s := by
  have hSw : S ∉ wr := fun h => hSf (W.sub S h)
  have hsub : ∀ b, b ∈ wr → b ∈ S :: wr := fun b hb => List.mem_cons_of_mem S hb
  have mv : ∀ {s s' : Shared} {X : κ → Bool} {m : Nat}, Moved wr G s s' → Heap.SetOf knd s.heap S X m → Heap.SetOf knd s'.heap S X m := fun {s s' X m} hm hS => by
    obtain ⟨o, es, ep, t, ho, rest⟩ := hS
    exact ⟨o, es, ep, t, hm.heap S o hSw ho, rest⟩
  intro k
  induction k with
  | zero =>
    intro i s hk hi hst hS hR
    have hin : i = n := by omega
    subst hin
    refine codeAny_builtin F.entry_set_update_loop ?_
    rw [Around.under_plainId F.plain_set_update_loop]
    show wpAny _ _ (Builtin.«set.update.loop» _) _ _ _
    refine wpAny_bind (W.done s _ _ hst fun s' hm => wpAny_pure (hR s' (hm.mono hsub) ?_))
    have := mv hm hS
    rw [hn, List.take_length] at this
    exact this
  | succ k ih =>
    intro i s hk hi hst hS hR
    refine codeAny_builtin F.entry_set_update_loop ?_
    rw [Around.under_plainId F.plain_set_update_loop]
    show wpAny _ _ (Builtin.«set.update.loop» _) _ _ _
    refine wpAny_bind (W.item i s _ _ (by omega) hst fun v s' hP hst' hm => ?_)
    obtain ⟨x, hx, h1, h2⟩ := hval i v hP
    have hS' := mv hm hS
    refine wpAny_bind (wpAny_holding ?_)
    show wpAny _ _ (setAdd S v) _ _ _
    refine wpAny_holding (wpAny_bind (knd.pyHash h1 ?_))
    have hroom : (distK (ks.take i)).length + 1 < scanBound := by
      have := distK_le (ks := ks.take i)
      rw [List.length_take] at this
      omega
    refine wpAny_setAddHashed_of h1 h2 hS' hroom fun h' hsb hS2 => ?_
    refine wpAny_pure ⟨plainId_quiet F.plain_set_update_loop _, ?_⟩
    refine ih (i + 1) _ (by omega) (by omega) (W.frame (i + 1) s' h' _ hst' (Nat.le_succ _) fun b hb o e => ?_) (SetOf_congr hS2 (fun y => ?_) ?_) fun s'' hm'' hS'' => hR s'' ?_ hS''
    · rw [hsb.right b fun h => hSf (h ▸ hb)]
      exact e
    · rw [distK_succ hx]
      apply Bool.eq_iff_iff.mpr
      simp [stepK_mem]
    · rw [distK_succ hx, stepK_len]
      simp
    · refine Moved.trans W.gtrans (Moved.then_heap (hm.mono hsub) (Nat.le_succ _) fun b o hb e => ?_) hm''
      rw [hsb.right b fun h => hb (by rw [h]; exact List.mem_cons_self)]
      exact e
end
section
theorem callType_by {P : Program} {w : World} {A : Around} {E : Value → Shared → Prop} {s : Shared} {T newId initId : String} {Bi : Builtin} {args : List Value} {Q Q₁ : Value → Shared → Prop} (ft : TypeCalled T newId initId) (hct : checkTypeCall T ⟨args, []⟩ = pure ()) (entryI : entryFor table initId = some Bi) (hnew : codeAny (model P w) A.in1 (.call (.builtin newId) ⟨.type T :: args, []⟩) (wants Q₁ E) s)
    (hnext : ∀ obj s₁, Q₁ obj s₁ → s₁.TypeIs obj T ∧ (∀ {M : Model} {A' : Around} {E' : Value → Shared → Prop} {Q' : Unit → Shared → Prop}, Q' () s₁ → wpAny M A' (checkBuiltinCall initId ⟨obj :: args, []⟩) Q' E' s₁) ∧
      wpAny (model P w) A.in1.in1 (Bi ⟨obj :: args, []⟩)
        (fun fin s' => match fin with | .done f => wants (fun r s₂ => r = .none ∧ Q obj s₂) E (.ok f) s' | .again c' => c'.quiet = true ∧ codeAny (model P w) A.in1 c' (wants (fun r s₂ => r = .none ∧ Q obj s₂) E) s')
        (fun e s' => wants (fun r s₂ => r = .none ∧ Q obj s₂) E (.error e) s') s₁) : wpAny (model P w) A (call (.type T) args) Q E s := by
  obtain ⟨c, tl, hmro⟩ := ft.mro
  have hmade := ft.made
  have hsub := ft.sub
  refine wpAny_call (codeAny_of_tree ?_)
  show wpAny _ _ (callAny (.type T) _) _ _ _
  refine wpAny_pure ⟨Code.quiet_builtin _ (by decide +kernel), codeAny_builtin F.entry_type_call ?_⟩
  rw [Around.under_plain (weight_type_call_type T args []) rfl]
  have h1 := ft.notType
  have h2 := ft.canCreate
  repeat (any_goals (first | assumption | wp_step))

  refine codeAny_mono hnew fun r s₁ hr => ?_
  cases r with
  | error e => exact hr
  | ok fl =>
    cases fl with
    | ret obj =>
      obtain ⟨hT, hck, hsi⟩ := hnext _ _ hr
      have hli := ft.init.lookup
      have hbi := ft.init.bind obj
      repeat (any_goals (first | assumption | wp_step))

      refine codeAny_mono (codeAny_call_builtin ft.init.plain entryI (hck hsi)) fun r₂ s₂ hr₂ => ?_
      cases r₂ with
      | error e => exact hr₂
      | ok fl₂ =>
        cases fl₂ with
        | ret r =>
          obtain ⟨rfl, hq⟩ := hr₂
          repeat (any_goals (first | assumption | wp_step))
        | _ => exact hr₂.elim
    | _ => exact hr.elim
variable {P : Program} {w : World} {κ : Type} [DecidableEq κ] [BEq κ] [LawfulBEq κ] {knd : KeyKind P w κ}
theorem call_set_keys {A : Around} {E : Value → Shared → Prop} {s : Shared} {l : Addr} {items : Array Value} {Q : Value → Shared → Prop} (ks : List κ) (hh : A.handled = none) (hl : s.heap.IsList l items) (hi : items.size = ks.length) (hk : ∀ (i : Nat) (v : Value), items[i]? = some v → ∃ k : κ, ks[i]? = some k ∧ knd.is k v = true ∧ v.scannable = true) (hb : items.size + 1 < scanBound)
    (h : ∀ (h' : Heap) (tk : Tok), Heap.SetOf knd h' s.heap.objs.size (fun x => decide (x ∈ distK ks)) (distK ks).length → (∀ b o, s.heap.get? b = some o → h'.get? b = some o) → Q (.ref s.heap.objs.size) { s with heap := h', toks := tk }) : wpAny (model P w) A (call (.type "set") [.ref l]) Q E s := by
  refine callType_by (Q₁ := fun obj s₁ => ∃ led, obj = Value.ref s.heap.objs.size ∧ s₁ = { s with heap := s.heap.push { cls := Value.type "set", data := Data.set #[] 0 (SetTable.fresh 0 0 led) } }) F.called_set (F.typeCall_set_1 _) F.entry_set_init (code_set_new_1 (.ref l) fun led => ⟨led, rfl, rfl⟩) ?_
  rintro obj s₁ ⟨led, rfl, rfl⟩
  obtain ⟨ob, hob⟩ : ∃ ob : Obj, ob = { cls := Value.type "set", data := Data.set #[] 0 (SetTable.fresh 0 0 led) } := ⟨_, rfl⟩
  rw [← hob]
  have hS : (s.heap.push ob).get? s.heap.objs.size = some ob := Heap.get?_push_size s.heap (by rw [hob]; rfl)
  have hTS : ({ s with heap := s.heap.push ob } : Shared).TypeIs (.ref s.heap.objs.size) "set" := ⟨ob, hS, by rw [hob]⟩
  refine ⟨hTS, fun h' => check_set_init_1 hTS h', ?_⟩
  show wpAny _ _ (Builtin.«set.__init__» ⟨[.ref s.heap.objs.size, .ref l], []⟩) _ _ _
  obtain ⟨o, ho, hcl, n, hdt⟩ := id hl
  have hl1 : (s.heap.push ob).get? l = some o := Heap.get?_push_of_some _ ho
  unfold Builtin.«set.__init__»
  simp only [noKeywords, pure_bind, List.isEmpty_nil, if_true]
  unfold typeNameOfCut shownTypeOf
  refine wpAny_bind (wpAny_bind (wpAny_bind (wpAny_typeOf hTS ?_)))
  refine wpAny_ite_false rfl (wpAny_pure ?_)
  refine wpAny_pure ?_
  have cc : ∀ nm, checkCount nm 0 1 1 = pure () := fun nm => by unfold checkCount; simp
  refine wpAny_bind (wpAny_of_eq (cc _) ?_)
  refine wpAny_bind (wpAny_pure ?_)
  unfold setUsed setState
  refine wpAny_bind (wpAny_bind (wpAny_bind (wpAny_load hS ?_)))
  rw [hob]
  refine wpAny_ite_false (by cases led <;> rfl) (wpAny_pure ?_)
  refine wpAny_pure ?_
  refine wpAny_ite_false (by cases led <;> rfl) ?_
  rw [← hob]
  refine wpAny_bind ?_
  have hTl : ({ s with heap := s.heap.push ob } : Shared).TypeIs (.ref l) "list" := ⟨o, hl1, hcl⟩
  have hsls := PySem.F.sub_list_set
  have hslf := PySem.F.sub_list_frozenset
  have hne : (Value.type "list" == Value.type "dict") = false := by decide
  have hl2 : (s.heap.push ob).IsList l items := hl.push _
  have hlS : l < s.heap.objs.size := Heap.lt_size ho
  have hz : (s.heap.push ob).objs.size = s.heap.objs.size + 1 := Heap.size_push ..
  unfold Builtin.Frozenset.updateFrom
  generalize hPI : pyIter = PI
  wp_walk
  subst hPI
  refine wpAny_pyIter_list hl2 ?_
  refine wpAny_bind (wpAny_runValue ?_)
  have hh3 : A.in1.in1.in1.handled = none := by simp [hh]
  refine upd_loopK (knd := knd) ((Walks.list hh3 _ l (by rw [hz]; exact Nat.ne_of_lt (Nat.lt_succ_of_lt hlS)) items).toS) s.heap.objs.size (by rw [hz]; simp only [List.mem_cons, List.mem_singleton, List.not_mem_nil, or_false, not_or]; exact ⟨Nat.ne_of_lt (Nat.lt_succ_self _), Nat.ne_of_gt hlS⟩) ks hi (fun i v hv => hk i v hv) hb (items.size - 0) 0 _ (by omega) (Nat.zero_le _) ⟨⟨_, Heap.get?_push_size _ rfl, rfl, rfl⟩, hl2.push _⟩ ?_ ?_
  · refine SetOf_congr ((setObjOf_fresh (knd := knd) led).setOf (by rw [← hob]; exact Heap.get?_push_of_some _ hS) (by unfold scanBound; omega)) (fun y => ?_) rfl
    simp [distK]
  · intro s' hm hS'
    obtain ⟨h', g', d', tk', os'⟩ := s'
    have eg : g' = s.gens := hm.gens
    have ed : d' = s.drawn := hm.drawn
    have eo : os' = s.os := hm.os
    subst eg; subst ed; subst eo
    show wpAny _ _ _ _ _ _
    refine wpAny_pure ?_
    show wpAny _ _ (ret Value.none) _ _ _
    refine wpAny_pure ⟨rfl, h h' tk' hS' fun b o e => ?_⟩
    have hb0 := Heap.lt_size e
    exact hm.heap b o (by rw [hz]; simp only [List.mem_cons, List.mem_singleton, List.not_mem_nil, or_false, not_or]; exact ⟨Nat.ne_of_lt hb0, Nat.ne_of_lt (Nat.lt_succ_of_lt hb0)⟩) (Heap.get?_push_of_some _ (Heap.get?_push_of_some _ e))
theorem call_set_keysT {A : Around} {E : Value → Shared → Prop} {s : Shared} {l : Addr} {items : Array Value} {Q : Value → Shared → Prop} (ks : List κ) (hh : A.handled = none) (hl : s.heap.IsTuple l items) (hi : items.size = ks.length) (hk : ∀ (i : Nat) (v : Value), items[i]? = some v → ∃ k : κ, ks[i]? = some k ∧ knd.is k v = true ∧ v.scannable = true) (hb : items.size + 1 < scanBound)
    (h : ∀ (h' : Heap) (tk : Tok), Heap.SetOf knd h' s.heap.objs.size (fun x => decide (x ∈ distK ks)) (distK ks).length → (∀ b o, s.heap.get? b = some o → h'.get? b = some o) → Q (.ref s.heap.objs.size) { s with heap := h', toks := tk }) : wpAny (model P w) A (call (.type "set") [.ref l]) Q E s := by
  refine callType_by (Q₁ := fun obj s₁ => ∃ led, obj = Value.ref s.heap.objs.size ∧ s₁ = { s with heap := s.heap.push { cls := Value.type "set", data := Data.set #[] 0 (SetTable.fresh 0 0 led) } }) F.called_set (F.typeCall_set_1 _) F.entry_set_init (code_set_new_1 (.ref l) fun led => ⟨led, rfl, rfl⟩) ?_
  rintro obj s₁ ⟨led, rfl, rfl⟩
  obtain ⟨ob, hob⟩ : ∃ ob : Obj, ob = { cls := Value.type "set", data := Data.set #[] 0 (SetTable.fresh 0 0 led) } := ⟨_, rfl⟩
  rw [← hob]
  have hS : (s.heap.push ob).get? s.heap.objs.size = some ob := Heap.get?_push_size s.heap (by rw [hob]; rfl)
  have hTS : ({ s with heap := s.heap.push ob } : Shared).TypeIs (.ref s.heap.objs.size) "set" := ⟨ob, hS, by rw [hob]⟩
  refine ⟨hTS, fun h' => check_set_init_1 hTS h', ?_⟩
  show wpAny _ _ (Builtin.«set.__init__» ⟨[.ref s.heap.objs.size, .ref l], []⟩) _ _ _
  obtain ⟨o, ho, hcl, n, hdt⟩ := id hl
  have hl1 : (s.heap.push ob).get? l = some o := Heap.get?_push_of_some _ ho
  unfold Builtin.«set.__init__»
  simp only [noKeywords, pure_bind, List.isEmpty_nil, if_true]
  unfold typeNameOfCut shownTypeOf
  refine wpAny_bind (wpAny_bind (wpAny_bind (wpAny_typeOf hTS ?_)))
  refine wpAny_ite_false rfl (wpAny_pure ?_)
  refine wpAny_pure ?_
  have cc : ∀ nm, checkCount nm 0 1 1 = pure () := fun nm => by unfold checkCount; simp
  refine wpAny_bind (wpAny_of_eq (cc _) ?_)
  refine wpAny_bind (wpAny_pure ?_)
  unfold setUsed setState
  refine wpAny_bind (wpAny_bind (wpAny_bind (wpAny_load hS ?_)))
  rw [hob]
  refine wpAny_ite_false (by cases led <;> rfl) (wpAny_pure ?_)
  refine wpAny_pure ?_
  refine wpAny_ite_false (by cases led <;> rfl) ?_
  rw [← hob]
  refine wpAny_bind ?_
  have hTl : ({ s with heap := s.heap.push ob } : Shared).TypeIs (.ref l) "tuple" := ⟨o, hl1, hcl⟩
  have hsls := PySem.F.sub_tuple_set
  have hslf := PySem.F.sub_tuple_frozenset
  have hne : (Value.type "tuple" == Value.type "dict") = false := by decide
  have hl2 : (s.heap.push ob).IsTuple l items := hl.push _
  have hlS : l < s.heap.objs.size := Heap.lt_size ho
  have hz : (s.heap.push ob).objs.size = s.heap.objs.size + 1 := Heap.size_push ..
  unfold Builtin.Frozenset.updateFrom
  generalize hPI : pyIter = PI
  wp_walk
  subst hPI
  refine wpAny_pyIter_tuple hl2 ?_
  refine wpAny_bind (wpAny_runValue ?_)
  have hh3 : A.in1.in1.in1.handled = none := by simp [hh]
  refine upd_loopK (knd := knd) ((Walks.tuple hh3 _ l (by rw [hz]; exact Nat.ne_of_lt (Nat.lt_succ_of_lt hlS)) items).toS) s.heap.objs.size (by rw [hz]; simp only [List.mem_cons, List.mem_singleton, List.not_mem_nil, or_false, not_or]; exact ⟨Nat.ne_of_lt (Nat.lt_succ_self _), Nat.ne_of_gt hlS⟩) ks hi (fun i v hv => hk i v hv) hb (items.size - 0) 0 _ (by omega) (Nat.zero_le _) ⟨⟨_, Heap.get?_push_size _ rfl, rfl, rfl⟩, hl2.push _⟩ ?_ ?_
  · refine SetOf_congr ((setObjOf_fresh (knd := knd) led).setOf (by rw [← hob]; exact Heap.get?_push_of_some _ hS) (by unfold scanBound; omega)) (fun y => ?_) rfl
    simp [distK]
  · intro s' hm hS'
    obtain ⟨h', g', d', tk', os'⟩ := s'
    have eg : g' = s.gens := hm.gens
    have ed : d' = s.drawn := hm.drawn
    have eo : os' = s.os := hm.os
    subst eg; subst ed; subst eo
    show wpAny _ _ _ _ _ _
    refine wpAny_pure ?_
    show wpAny _ _ (ret Value.none) _ _ _
    refine wpAny_pure ⟨rfl, h h' tk' hS' fun b o e => ?_⟩
    have hb0 := Heap.lt_size e
    exact hm.heap b o (by rw [hz]; simp only [List.mem_cons, List.mem_singleton, List.not_mem_nil, or_false, not_or]; exact ⟨Nat.ne_of_lt hb0, Nat.ne_of_lt (Nat.lt_succ_of_lt hb0)⟩) (Heap.get?_push_of_some _ (Heap.get?_push_of_some _ e))
end
end QD

/-! QD39: len(set(xs)), xs a list or a tuple of texts. -/
namespace QD
open PySem L2 PyProof.Rows PySem.Spec
def tLenSet (K : PySem.W.Frag) (ta : TE) : TE := fun σ H Q => ta σ H fun x H1 => ∃ (l : Addr) (ks : List Str), x = V.ref l ∧ (SqL K H1 l (ks.map V.str) ∨ SqT K H1 l (ks.map V.str)) ∧ ks.length < 4000 ∧ Q (.int (distK ks).length) H1
theorem set_seq {X : Cx} {pins : List (Addr × Obj)} {σ : L2.St} {H : Hp} {s : Shared} {l : Addr} {ks : List Str} {Q E : Value → Shared → Prop} (I : L2.Inv X pins σ H s) (hc : X.calm = true) (hq : SqL X.K H l (ks.map V.str) ∨ SqT X.K H l (ks.map V.str)) (h4 : ks.length < 4000)
    (h : ∀ (h' : Heap) (tk : Tok), ks.length ≤ sizeLine → Heap.SetOf (strKind X.prog X.w) h' s.heap.objs.size (fun x => decide (x ∈ distK ks)) (distK ks).length → (∀ b o, s.heap.get? b = some o → h'.get? b = some o) → Q (.ref s.heap.objs.size) { s with heap := h', toks := tk }) : wpAny (model X.prog X.w) X.A (call (.type "set") [.ref l]) Q E s := by
  rcases hq with hq | hq
  · obtain ⟨its, r, pl, hz⟩ := I.list hq
    have hl : its.length = ks.length := by rw [← r.length, List.length_map]
    rw [List.length_map] at hz
    refine call_set_keys (knd := strKind X.prog X.w) ks (I.ok.hd hc) pl.isList (by simpa using hl) (fun i v hv => ?_) (by simp only [List.size_toArray]; unfold scanBound; unfold sizeLine at hz; omega) fun h' tk hS hk => h h' tk hz hS hk
    obtain ⟨y, t, e, hy⟩ := r.strs.item i v (by simpa using hv)
    exact ⟨y, hy, by rw [e]; exact strKind_is _ _ _ _, by rw [e]; rfl⟩
  · obtain ⟨its, r, pl, hz⟩ := I.tuple hq
    have hl : its.length = ks.length := by rw [← r.length, List.length_map]
    rw [List.length_map] at hz
    refine call_set_keysT (knd := strKind X.prog X.w) ks (I.ok.hd hc) pl (by simpa using hl) (fun i v hv => ?_) (by simp only [List.size_toArray]; unfold scanBound; unfold sizeLine at hz; omega) fun h' tk hS hk => h h' tk hz hS hk
    obtain ⟨y, t, e, hy⟩ := r.strs.item i v (by simpa using hv)
    exact ⟨y, hy, by rw [e]; exact strKind_is _ _ _ _, by rw [e]; rfl⟩
theorem pe_lenSet {X : Cx} {a : Expr} {ta : TE} {p p2 q pos : Pos} (hc : X.calm = true) (hg : Gl X "len") (hm : X.mg "len" = none) (hg2 : Gl X "set") (hm2 : X.mg "set" = none) (ha : PE X a ta)
    (na : starEach [a] X.env = (false, eval a X.env) :: starEach [] X.env := by rfl) : PE X (.Call (.Name "len" p) [.Call (.Name "set" p2) [a] [] q] [] pos) (tLenSet X.K ta) := by
  refine ⟨fun pins s σ H Q I h => ?_⟩
  refine Call_ (ld_blt I hg hm PySem.boot_len ?_)
  refine callWith_builtin1 (args_cons ?_ rfl) rfl rfl
  refine Call_ (ld_blt I hg2 hm2 boot_set ?_)
  refine callWith_type1 (args_cons (thn (ha.run pins s σ H _ I h) fun v s1 ⟨x, H1, I1, r1, q1⟩ => args_nil ?_) na) na rfl
  obtain ⟨l, ks, rfl, hq, h4, q1⟩ := q1
  cases r1
  refine set_seq I1 hc hq h4 fun h' tk hz hS hk => ?_
  have hd := distK_le (ks := ks)
  refine args_nil ?_
  obtain ⟨o, es, ep, t, ho, hex, hd', _, _, _, hf, hn⟩ := hS
  have I2 : L2.Inv X pins σ H1 { s1 with heap := h', toks := tk } := I1.kept fun b o e => hk b o e
  refine call_len_set ho hex hd' hf (by rw [hn]; unfold sizeLine at hz; omega) ⟨.int (distK ks).length, H1, I2.tok _, ⟨_, by rw [hn]⟩, q1⟩
section
variable {K : PySem.W.Frag} {c : Fm} {H0 : Hp} {ta : TE} {da : DE}
def dLenSet (a : DE) : DE := fun ρ P => a ρ fun x _ => optP (strsOf x) fun ks => ks.length < 4000 ∧ P (.int (distK ks).length) false
theorem sim_lenSet (ha : SimE K c H0 ta da) : SimE K c H0 (tLenSet K ta) (dLenSet da) := by
  intro ρ P h O σ H Q rp q
  refine ha ρ _ h O σ H _ rp fun v x b H1 h1 rp1 e1 rx => ?_
  obtain ⟨ks, e, h2⟩ := optP_some h1
  obtain ⟨ds, f1, f2⟩ := Option.bind_eq_some_iff.mp e
  obtain ⟨p, xs, rfl, g1, g2⟩ := items_of f1 rx.here
  rw [asStrs_eq f2] at g2
  rw [g2.strs] at g1
  exact ⟨p, ks, rfl, g1, h2.1, q _ _ _ H1 h2.2 rp1 e1 rfl⟩
theorem go_lenSet {a : DE} {ρ : DEnv} {P : D → Bool → Prop} : Go (dLenSet a ρ P) = Go (a ρ fun x _ => optP (strsOf x) fun ks => ks.length < 4000 ∧ P (.int (distK ks).length) false) := (rfl)
end
end QD

/-! QD40: xs[i::2] of a list, i a number that is written. -/
namespace QD
open PySem L2 PyProof.Rows PySem.Spec
/-- every other one, from the first on -/
def ev2 {α : Type} : List α → List α
  | [] => []
  | [a] => [a]
  | a :: _ :: r => a :: ev2 r
theorem fm_congr {α β : Type} {f g : α → Option β} : ∀ {l : List α}, (∀ x ∈ l, f x = g x) → l.filterMap f = l.filterMap g
  | [], _ => rfl
  | a :: r, h => by rw [List.filterMap_cons, List.filterMap_cons, h a List.mem_cons_self, fm_congr fun x hx => h x (List.mem_cons_of_mem _ hx)]
theorem ev2_range {α : Type} : ∀ (xs : List α), (List.range ((xs.length + 1) / 2)).filterMap (fun k => xs[2 * k]?) = ev2 xs
  | [] => by simp [ev2]
  | [a] => by simp [ev2, List.range_succ]
  | a :: b :: r => by
    have e : ((a :: b :: r).length + 1) / 2 = (r.length + 1) / 2 + 1 := by simp only [List.length_cons]; omega
    rw [e, List.range_succ_eq_map, List.filterMap_cons, List.filterMap_map]
    show a :: _ = a :: _
    congr 1
    rw [← ev2_range r]
    refine fm_congr fun k _ => ?_
    show (a :: b :: r)[2 * (k + 1)]? = r[2 * k]?
    rw [show 2 * (k + 1) = 2 * k + 1 + 1 by omega, List.getElem?_cons_succ, List.getElem?_cons_succ]
theorem ev2_le {α : Type} : ∀ (xs : List α), (ev2 xs).length ≤ xs.length
  | [] => Nat.le_refl _
  | [a] => Nat.le_refl _
  | a :: b :: r => by
    have := ev2_le r
    show (ev2 r).length + 1 ≤ r.length + 1 + 1
    omega
theorem pick_ev2 (its : List Value) (i : Nat) : slicePick its.toArray (some (i : Int)) none (some 2) = (ev2 (its.drop i)).toArray := by
  have hb : sliceBounds (some (i : Int)) none (some 2) its.toArray.size = (((min i its.length : Nat) : Int), ((its.length : Nat) : Int), 2) := by
    simp only [sliceBounds, Option.getD_some, List.size_toArray]
    have h1 : ¬ ((i : Int) < 0) := by omega
    simp only [h1, if_false, show (2 : Int) > 0 by decide, if_true]
    congr 1
    omega
  unfold slicePick
  rw [hb]
  dsimp only
  have hr : sliceRange ((min i its.length : Nat) : Int) ((its.length : Nat) : Int) 2 = (List.range ((its.length - min i its.length + 1) / 2)).map fun k => min i its.length + 2 * k := by
    unfold sliceRange
    simp only [show (2 : Int) > 0 by decide, if_true]
    have e : (if ((min i its.length : Nat) : Int) < ((its.length : Nat) : Int) then (((its.length : Nat) : Int) - ((min i its.length : Nat) : Int) + 2 - 1) / 2 else 0).toNat = (its.length - min i its.length + 1) / 2 := by
      split <;> omega
    rw [e]
    apply List.map_congr_left
    intro k _
    omega
  rw [hr, List.filterMap_map]
  have hl : (its.drop i).length = its.length - min i its.length := by rw [List.length_drop]; omega
  rw [← hl, ← ev2_range (its.drop i)]
  congr 1
  refine fm_congr fun k hk => ?_
  show its.toArray[min i its.length + 2 * k]? = (its.drop i)[2 * k]?
  rw [List.getElem?_drop, List.getElem?_toArray]
  rcases Nat.le_total i its.length with h | h
  · rw [Nat.min_eq_left h]
  · rw [Nat.min_eq_right h, List.getElem?_eq_none (by omega), List.getElem?_eq_none (by omega)]
theorem vals_ev2 : ∀ {xs : List V} {us : List Value}, Vals xs us → Vals (ev2 xs) (ev2 us)
  | [], _, h => by cases h; exact .nil
  | [a], _, h => by
    cases h with
    | cons r h => cases h; exact .cons r .nil
  | a :: b :: r, _, h => by
    cases h with
    | cons r1 h =>
      cases h with
      | cons r2 h => exact .cons r1 (vals_ev2 h)
theorem RA.ev2 {K : PySem.W.Frag} {H : Hp} : ∀ {ds : List D} {vs : List V}, RA K H ds vs → RA K H (ev2 ds) (QD.ev2 vs)
  | [], _, h => by
    rw [show _ = [] from h]; exact rfl
  | [d], _, h => by
    obtain ⟨v, r, rfl, h1, h2⟩ := h
    rw [show r = [] from h2]
    exact ⟨v, [], rfl, h1, rfl⟩
  | d :: d' :: ds, _, h => by
    obtain ⟨v, r, rfl, h1, v', r', rfl, h1', h2⟩ := h
    exact ⟨v, _, rfl, h1, RA.ev2 h2⟩
def tSl2 (K : PySem.W.Frag) (i : Nat) (te : TE) : TE := fun σ H Q => te σ H fun x H1 => ∃ a xs, x = .ref a ∧ SqL K H1 a xs ∧ ∀ p, H1 p = none → Q (.ref p) (upd H1 p (.lst (ev2 (xs.drop i))))
theorem pe_sl2 {X : Cx} {e : Expr} {te : TE} {i k k' : Nat} {p1 p2 p3 pos : Pos} (he : PE X e te) : PE X (.Subscript e (.Slice (some (.Constant (.int i) k' p2)) none (some (.Constant (.int 2) k p1)) p3) pos) (tSl2 X.K i te) := by
  refine ⟨fun pins s σ H Q I h => ?_⟩
  refine Subscript_ (thn (he.run pins s σ H _ I h) fun v s1 ⟨x, H1, I1, r1, q1⟩ => ?_)
  obtain ⟨a, xs, ex, hx, q⟩ := q1
  subst ex
  cases r1
  have hst : PO X (some (.Constant (.int 2) k p1)) (tPart (tC (.int 2))) := po_some pe_int
  have hlo : PO X (some (.Constant (.int i) k' p2)) (tPart (tC (.int i))) := po_some pe_int
  refine wpAny_Slice (thn (hlo.run pins s1 σ H1 (fun o H2 => o = some (i : Int) ∧ H2 = H1) I1 ⟨i, rfl, rfl, rfl⟩) fun vl s2 ⟨l, H2, I2, pl, el, e2⟩ => ?_)
  subst el e2
  refine thn (po_none.run pins s2 σ H2 (fun o H3 => o = none ∧ H3 = H2) I2 ⟨rfl, rfl⟩) fun vu s3 ⟨u, H3, I3, pu, eu, e3⟩ => ?_
  subst eu e3
  refine thn (hst.run pins s3 σ H3 (fun o H4 => o = some 2 ∧ H4 = H3) I3 ⟨2, rfl, rfl, rfl⟩) fun vs s4 ⟨o, H4, I4, ps, eo, e4⟩ => ?_
  subst eo e4
  have I5 : L2.Inv X pins σ H4 { s4 with heap := s4.heap.push { cls := .type "slice", data := .fields #[vl, vu, vs] } } := I4.kept (t' := s4.toks) fun b ob q => Heap.get?_push_of_some _ q
  obtain ⟨its, r, ht, hz⟩ := I5.list hx
  have hlen := r.length
  show wpAny (model X.prog X.w) X.A (subscriptTail e (.Slice (some (.Constant (.int i) k' p2)) none (some (.Constant (.int 2) k p1)) p3) (.ref a) (.ref s4.heap.objs.size)) (EP X pins σ Q) X.xe { s4 with heap := s4.heap.push { cls := .type "slice", data := .fields #[vl, vu, vs] } }
  refine tail_any (ops := [.ref a, .ref s4.heap.objs.size]) ht.isList.typeIs (PySem.slot_list_getitem.lookup) ?_ (by with_unfolding_all rfl)
  refine wpAny_getItem_list_slice ht.isList (Heap.IsSliceOf.new _ vl vu vs) pl pu ps (by decide) ?_ (by rw [List.size_toArray]; omega)
  rw [pick_ev2]
  refine ⟨.ref _, _, I5.laid (t' := s4.toks) (o := .lst (ev2 (xs.drop i))) (fun b ob q => Heap.get?_push_of_some _ q) (Nat.le_refl _) ?_, rfl, q _ (I5.hok.fresh (Nat.le_refl _))⟩
  exact ⟨Nat.le_trans (ev2_le _) (by rw [List.length_drop]; omega), _, 0, vals_ev2 (r.drop i), Heap.get?_push_size _ rfl⟩
section
variable {K : PySem.W.Frag} {c : Fm} {H0 : Hp} {ta : TE} {da : DE}
def slD2 (i : Nat) : D → Bool → (D → Bool → Prop) → Prop
  | .lst ds, b, P => P (.lst (ev2 (ds.drop i))) b
  | _, _, _ => False
def dSl2 (i : Nat) (a : DE) : DE := fun ρ P => a ρ fun x b => slD2 i x b P
theorem sim_sl2 {i : Nat} (ha : SimE K c H0 ta da) : SimE K c H0 (tSl2 K i ta) (dSl2 i da) := by
  intro ρ P h O σ H Q rp q
  refine ha ρ _ h O σ H _ rp fun v x b H1 h1 rp1 e1 rx => ?_
  cases x with
  | lst ds =>
    obtain ⟨p, xs, rfl, g1, g2⟩ := id rx
    refine ⟨p, xs, rfl, .inl (.inl (tracked_of g1)), fun p' hp => ?_⟩
    obtain ⟨z1, z2, z3⟩ := sr_new (b := b) rp1 hp (show RBA K c O H1 b _ _ from RA.ev2 (RA.drop i g2))
    exact q _ _ _ _ h1 (rp1.up z1 z2) (e1.trans z1) z3
  | _ => exact h1.elim
theorem go_sl2 {a : DE} {i : Nat} {ρ : DEnv} {P : D → Bool → Prop} : Go (dSl2 i a ρ P) = Go (a ρ fun x b => slD2 i x b P) := (rfl)
theorem go_sl2L {ds : List D} {i : Nat} {b : Bool} {P : D → Bool → Prop} : Go (slD2 i (.lst ds) b P) = Go (P (.lst (ev2 (ds.drop i))) b) := (rfl)
end
end QD

/-! QD41: {(True, ..): 'text', ..}.get(a tuple of truth values, a text). -/
namespace QD
open PySem L2 PyProof.Rows PySem.Spec
abbrev BK := List Bool × Str
/-- what stands in the table for a key, else the default -/
def tabAt (tab : List BK) (k : List Bool) (d : Str) : Str := ((tab.find? fun t => decide (t.1 = k)).map (·.2)).getD d
abbrev TX : List (Addr × BK) → List (List Bool × Addr × Value) → Prop := Paired fun t x => t.2.1 = x.1 ∧ t.1 = x.2.1 ∧ ∃ tk, x.2.2 = Value.str t.2.2 tk
theorem tx_snoc {t : Addr × BK} {x : List Bool × Addr × Value} (h : t.2.1 = x.1 ∧ t.1 = x.2.1 ∧ ∃ tk, x.2.2 = Value.str t.2.2 tk) : ∀ {ts : List (Addr × BK)} {xs : List (List Bool × Addr × Value)}, TX ts xs → TX (ts ++ [t]) (xs ++ [x])
  | _, _, .nil => .cons h .nil
  | _, _, .cons a r => .cons a (tx_snoc h r)
theorem tx_len : ∀ {ts : List (Addr × BK)} {xs : List (List Bool × Addr × Value)}, TX ts xs → ts.length = xs.length
  | _, _, .nil => rfl
  | _, _, .cons a r => by rw [List.length_cons, List.length_cons, tx_len r]
theorem tx_none {k : List Bool} : ∀ {ts : List (Addr × BK)} {xs : List (List Bool × Addr × Value)}, TX ts xs → k ∉ ts.map (·.2.1) → atKey xs k = none
  | _, _, .nil, _ => rfl
  | _, _, .cons (a := t) (b := x) a r, h => by
    rw [List.map_cons, List.mem_cons] at h
    have h1 : ¬ x.1 = k := fun e => h (.inl (by rw [a.1, e]))
    have h2 := tx_none r fun z => h (.inr z)
    unfold atKey at h2 ⊢
    rw [List.find?_cons, decide_eq_false h1]
    exact h2
theorem tx_at {k : List Bool} {d : Str} {dv : Value} {tk : Tok} (hd : dv = Value.str d tk) : ∀ {ts : List (Addr × BK)} {xs : List (List Bool × Addr × Value)}, TX ts xs → ∃ t', (((atKey xs k).map (·.2)).getD dv) = Value.str (tabAt (ts.map (·.2)) k d) t'
  | _, _, .nil => ⟨tk, hd⟩
  | _, _, .cons (a := t) (b := x) a r => by
    obtain ⟨a1, a2, t2, a3⟩ := a
    by_cases h : x.1 = k
    · refine ⟨t2, ?_⟩
      unfold atKey tabAt
      rw [List.find?_cons, decide_eq_true h, List.map_cons, List.find?_cons, decide_eq_true (show t.2.1 = k by rw [a1, h])]
      exact a3
    · obtain ⟨t', h'⟩ := tx_at (k := k) hd r
      refine ⟨t', ?_⟩
      unfold atKey tabAt at h' ⊢
      rw [List.find?_cons, decide_eq_false h, List.map_cons, List.find?_cons, decide_eq_false (show ¬ t.2.1 = k by rw [a1]; exact h)]
      exact h'
theorem bools_are {P : Program} {w : World} : ∀ {bs : List Bool} {us : List Value}, Vals (bs.map V.bl) us → ItemsAre (PpSet.boolK P w) bs us
  | [], _, h => by cases h; exact .nil
  | b :: bs, _, h => by
    cases h with
    | cons r h =>
      rw [show _ = Value.bool b from r]
      exact .cons (PpSet.boolK_is P w b) (bools_are h)
theorem key_bools {X : Cx} {pins : List (Addr × Obj)} {σ : L2.St} {H : Hp} {s : Shared} {a : Addr} {bs : List Bool} (I : L2.Inv X pins σ H s) (h : SqT X.K H a (bs.map V.bl)) : (tupleKind (PpSet.boolK X.prog X.w)).is s.heap bs a := by
  obtain ⟨its, r, ht, _⟩ := I.tuple h
  obtain ⟨o, ho, hc, n, hd⟩ := ht
  exact ⟨o, its.toArray, n, ho, hc, hd, bools_are r⟩

theorem store_tab {X : Cx} {pins : List (Addr × Obj)} {σ : L2.St} {H : Hp} {d : Addr} {E : Value → Shared → Prop} {Q : Shared → Prop} (hu : X.A.units < cLine) (fp : FpOk X pins H d) : ∀ (ts done : List (Addr × BK)) (ws : List (Value × Value)) (xs : List (List Bool × Addr × Value)) (s : Shared),
    VV (ts.map fun t => (V.ref t.1, V.str t.2.2)) ws → TX done xs → L2.Inv X pins σ H s → s.heap.DictOfH (tupleKind (PpSet.boolK X.prog X.w)) d xs → (∀ t ∈ ts, SqT X.K H t.1 (t.2.1.map V.bl)) → ((done ++ ts).map (·.2.1)).Nodup → (done ++ ts).length ≤ 100 →
    (∀ s' xs', TX (done ++ ts) xs' → L2.Inv X pins σ H s' → s'.heap.DictOfH (tupleKind (PpSet.boolK X.prog X.w)) d xs' → Q s') → wpAny (model X.prog X.w) X.A (storeAll d ws) (fun _ s' => Q s') E s
  | [], done, ws, xs, s, hv, tx, I, hm, hk, hn, hl, q => by
    rw [List.map_nil] at hv
    cases hv
    unfold storeAll
    rw [List.forIn_nil]
    rw [List.append_nil] at q
    exact wpAny_pure (q s xs tx I hm)
  | t :: ts, done, ws, xs, s, hv, tx, I, hm, hk, hn, hl, q => by
    rw [List.map_cons] at hv
    cases hv with
    | cons r hv =>
      rename_i w2 ws2
      obtain ⟨r1, r2⟩ := r
      obtain ⟨k, v⟩ := w2
      cases (show k = Value.ref t.1 from r1)
      obtain ⟨tk, e2⟩ := (show ∃ tk, v = Value.str t.2.2 tk from r2)
      unfold storeAll
      rw [List.forIn_cons]
      have hx := tx_len tx
      rw [List.length_append, List.length_cons] at hl
      have hno : t.2.1 ∉ done.map (·.2.1) := by
        rw [List.map_append, List.map_cons] at hn
        have := (List.nodup_append.mp hn).2.2
        intro z
        exact this _ z _ List.mem_cons_self rfl
      refine wpAny_bind (wpAny_bind (wpAny_dictSet_heap (knd := tupleKind (PpSet.boolK X.prog X.w)) hu (key_bools I (hk t List.mem_cons_self)) hm (fun h' hm' hs => ?_) (by unfold sizeLine; omega)))
      refine wpAny_pure ?_
      rw [storedH_new (tx_none tx hno)] at hm'
      have I' : L2.Inv X pins σ H { s with heap := h', toks := s.toks + (tupleKind (PpSet.boolK X.prog X.w)).draws t.2.1 } := I.turned (fun b o hb e => (hs.2 b hb).trans e) fp.1 fp.2.1 fp.2.2.2.1 fp.2.2.2.2.1 fp.2.2.2.2.2
      refine store_tab hu fp ts (done ++ [t]) ws2 _ _ hv (tx_snoc ⟨rfl, rfl, tk, e2⟩ tx) I' hm' (fun u hu' => hk u (List.mem_cons_of_mem _ hu')) (by rw [List.append_assoc]; exact hn) (by rw [List.append_assoc, List.length_append]; simp only [List.length_append, List.length_cons, List.length_nil]; omega) fun s' xs' a b c => ?_
      exact q s' xs' (by rw [List.append_assoc] at a; exact a) b c
theorem tx_mem : ∀ {ts : List (Addr × BK)} {xs : List (List Bool × Addr × Value)}, TX ts xs → ∀ x ∈ xs, ∃ t ∈ ts, t.2.1 = x.1 ∧ t.1 = x.2.1
  | _, _, .nil, x, hx => nomatch hx
  | _, _, .cons (a := t) (b := y) a r, x, hx => by
    rcases List.mem_cons.mp hx with e | e
    · subst e
      exact ⟨t, List.mem_cons_self, a.1, a.2.1⟩
    · obtain ⟨u, h1, h2⟩ := tx_mem r x e
      exact ⟨u, List.mem_cons_of_mem _ h1, h2⟩
def tTabG (K : PySem.W.Frag) (trs : List (TE × TE)) (ta tx : TE) : TE := fun σ H Q => tPairs trs σ H fun ps H2 => ∃ ts : List (Addr × BK), ps = ts.map (fun t => (V.ref t.1, V.str t.2.2)) ∧ ts.length ≤ 100 ∧ (ts.map (·.2.1)).Nodup ∧ (∀ t ∈ ts, SqT K H2 t.1 (t.2.1.map V.bl)) ∧
  ta σ H2 fun y H3 => tx σ H3 fun z H4 => ∃ k bs d, y = V.ref k ∧ z = V.str d ∧ SqT K H4 k (bs.map V.bl) ∧ (∀ t ∈ ts, SqT K H4 t.1 (t.2.1.map V.bl)) ∧ Q (.str (tabAt (ts.map (·.2)) bs d)) H4
theorem pe_tabG {X : Cx} {keys : List (Option Expr)} {values : List Expr} {dpos apos cpos : Pos} {e f : Expr} {trs : List (TE × TE)} {ta tx : TE} (hu : X.A.units + 1 < cLine) (hp : PPs X dpos keys values trs) (hall : keys.all (·.isSome) = true) (hlen : keys.length = values.length) (h0 : keys ≠ []) (h15 : keys.length ≤ 15)
    (he : PE X e ta) (hf : PE X f tx) (m : M2 X (.Dict keys values dpos) "get" apos e f cpos) : PE X (.Call (.Attribute (.Dict keys values dpos) "get" apos) [e, f] [] cpos) (tTabG X.K trs ta tx) := by
  refine ⟨fun pins s σ H Q I h => ?_⟩
  have hsys : (s.heap.objs.size == sysModules) = false := beq_eq_false_iff_ne.mpr (Ne.symm (Nat.ne_of_lt I.big))
  refine wpAny_Call_method m.base m.few m.line PySem.F.plainAttrs_dict PySem.F.slot_dict_get PySem.F.type_dict_get ?_
  refine wpAny_Dict_any hall hlen h0 h15 ?_
  have I0 : L2.Inv X ((s.heap.objs.size, ({ cls := .type "dict", data := .dict #[] } : Obj)) :: pins) σ H { s with heap := s.heap.push { cls := .type "dict", data := .dict #[] } } := ClX.pin_new (t' := s.toks) I (fun b u q => Heap.get?_push_of_some _ q) (Nat.le_refl _) (Heap.get?_push_size _ rfl) (fun v z => nomatch z)
  refine thn (hp.run _ _ σ H _ I0 h) fun ws s2 ⟨ps, H2, I2, rel, ts, eps, ht, hn, hk, q2⟩ => ?_
  subst eps
  have hd2 := ClX.pin_at I2
  have hn2 := ClX.pin_un I2
  have fp : FpOk X pins H2 s.heap.objs.size := I.fpOk (Nat.le_refl _) hn2
  have hm : s2.heap.DictOfH (tupleKind (PpSet.boolK X.prog X.w)) s.heap.objs.size [] := ⟨_, #[], 0, hd2, ⟨rfl, rfl, rfl⟩, rfl, rfl, (fun x hx => nomatch hx), List.nodup_nil⟩
  refine store_tab (by omega) fp ts [] ws [] s2 rel .nil (ClX.unpin I2) hm hk hn ht fun s3 xs tx I3 hm3 => ?_
  obtain ⟨o, es, ep, ho, hc, hdt, hes, his, hnn⟩ := hm3
  have I4 : L2.Inv X ((s.heap.objs.size, o) :: pins) σ H2 s3 := I3.pins_of fun p hp => by
    rcases List.mem_cons.mp hp with z | z
    · subst z
      exact ⟨ho, hn2, fp.2.1, fp.2.2.1, fun v z => by rw [hdt] at z; cases z⟩
    · exact I3.pin p (List.mem_append_right _ z)
  refine ⟨⟨o, ho, hc.1⟩, fun b z => ?_, ?_⟩
  · cases z
    exact ⟨o, ho, hc.2.1⟩
  rw [m.trees]
  refine Calls.callWith_builtin rfl (Calls.evalArgs_plain (Calls.spliced_cons (thn (he.run _ s3 σ H2 _ I4 q2) fun iv s4 ⟨y, H3, I5, ry, q3⟩ => Calls.spliced_cons (thn (hf.run _ s4 σ H3 _ I5 q3) fun fv s5 ⟨z, H4, I6, rz, k, bs, dd, ey, ez, hk4, hks, q4⟩ => Calls.spliced_nil ?_))))
  subst ey ez
  cases (show iv = Value.ref k from ry)
  obtain ⟨tk, ez⟩ := (show ∃ tk, fv = Value.str dd tk from rz)
  have hm5 : s5.heap.DictOfH (tupleKind (PpSet.boolK X.prog X.w)) s.heap.objs.size xs := ⟨o, es, ep, ClX.pin_at I6, hc, hdt, hes, fun x hx => by
    obtain ⟨t, h1, h2, h3⟩ := tx_mem tx x hx
    rw [← h2, ← h3]
    exact key_bools I6 (hks t h1), hnn⟩
  refine call_meetsIn PySem.F.slot_dict_get ⟨o, ClX.pin_at I6, hc.1⟩ PySem.F.entry_dict_get (PySem.F.args_dict_get_3 _ _ _) (meetsH_dict_get_default (tupleKind (PpSet.boolK X.prog X.w)) s.heap.objs.size k hsys fv) ⟨tupleKind_room_in1 hu, bs, xs, key_bools I6 hk4, hm5, ?_⟩
  obtain ⟨t', et⟩ := tx_at (k := bs) ez tx
  rw [et]
  exact ⟨.str _, H4, (ClX.unpin I6).tok _, ⟨t', rfl⟩, q4⟩
end QD

/-! QD42: the reading of {(True, ..): 'text', ..}.get(a tuple of truth values, a text). -/
namespace QD
open PySem L2 PyProof.Rows PySem.Spec
variable {K : PySem.W.Frag} {c : Fm} {H0 : Hp}
/-- the parts of a written key -/
def tBls : List Bool → TA
  | [] => tNil
  | b :: bs => tCons (tC (.bl b)) (tBls bs)
def trsOf (tab : List BK) : List (TE × TE) := tab.map fun t => (tTup (tBls t.1), tC (.str t.2))
theorem tBls_run {σ : L2.St} {H : Hp} : ∀ {bs : List Bool} {Q : List V → Hp → Prop}, Q (bs.map V.bl) H → tBls bs σ H Q
  | [], Q, q => q
  | b :: bs, Q, q => tBls_run (bs := bs) (Q := fun xs H2 => Q (V.bl b :: xs) H2) q
theorem ra_bls {H : Hp} : ∀ (bs : List Bool), RA K H (bs.map D.bl) (bs.map V.bl)
  | [] => rfl
  | b :: bs => ⟨.bl b, _, rfl, rfl, ra_bls bs⟩
theorem RA.bls_eq {H : Hp} : ∀ {bs : List Bool} {vs : List V}, RA K H (bs.map D.bl) vs → vs = bs.map V.bl
  | [], _, h => h
  | b :: bs, _, h => by
    obtain ⟨v, r, rfl, h1, h2⟩ := h
    rw [show v = V.bl b from h1, RA.bls_eq h2]
    rfl
theorem tup_bls {O : List Addr} {H : Hp} {b : Bool} {bs : List Bool} {v : V} (h : RB K c O H b (.tup (bs.map D.bl)) v) : ∃ p, v = .ref p ∧ SqT K H p (bs.map V.bl) := by
  obtain ⟨a, xs, e, h1, h2⟩ := h.here
  rw [RA.bls_eq h2] at h1
  exact ⟨a, e, h1⟩
theorem pairs_run {O : List Addr} {σ : L2.St} {ρ : DEnv} : ∀ (tab : List BK) (H : Hp) (Q : List (V × V) → Hp → Prop), (∀ t ∈ tab, t.1.length ≤ 100) → Rep K c H0 O H σ ρ →
    (∀ (ts : List (Addr × BK)) (H' : Hp), ts.map (·.2) = tab → Rep K c H0 O H' σ ρ → Ex c.S H H' → (∀ t ∈ ts, RB K c O H' false (.tup (t.2.1.map D.bl)) (.ref t.1)) → Q (ts.map fun t => (V.ref t.1, V.str t.2.2)) H') → tPairs (trsOf tab) σ H Q
  | [], H, Q, hz, rp, q => q [] H rfl rp (Ex.refl H) fun t ht => nomatch ht
  | t :: tab, H, Q, hz, rp, q => by
    show tBls t.1 σ H _
    refine tBls_run ⟨by rw [List.length_map]; have := hz t List.mem_cons_self; unfold sizeLine; omega, fun p hp => ?_⟩
    have hn := rp.new hp
    have ex : Ex c.S H (upd H p (.tup (t.1.map V.bl))) := Ex.new hp
    have rp1 := rp.up ex (c.st _ _ (Grow.new hp) rp.inv)
    have rk : RB K c O (upd H p (.tup (t.1.map V.bl))) false (.tup (t.1.map D.bl)) (.ref p) := ⟨p, _, rfl, .inl (.inl (but_of (fun z => hn (mo_of z)) upd_same)), ra_bls _⟩
    refine pairs_run tab _ _ (fun u hu => hz u (List.mem_cons_of_mem _ hu)) rp1 fun ts H' e rp' ex' hk => ?_
    refine q ((p, t) :: ts) H' (by rw [List.map_cons, e]) rp' (ex.trans ex') fun u hu => ?_
    rcases List.mem_cons.mp hu with z | z
    · subst z
      exact rk.up ex'
    · exact hk u z
def tupBls : D → (List Bool → Prop) → Prop
  | .tup ds, P => optP (asBls ds) P
  | _, _ => False
def dTabG (tab : List BK) (dflt : Str) (a : DE) : DE := fun ρ P => a ρ fun x _ => tupBls x fun bs => P (.str (tabAt tab bs dflt)) false
theorem sim_tabG {tab : List BK} {dflt : Str} {ta : TE} {da : DE} (hn : (tab.map (·.1)).Nodup) (hl : tab.length ≤ 100) (hz : ∀ t ∈ tab, t.1.length ≤ 100) (ha : SimE K c H0 ta da) : SimE K c H0 (tTabG K (trsOf tab) ta (tC (.str dflt))) (dTabG tab dflt da) := by
  intro ρ P h O σ H Q rp q
  refine pairs_run tab H _ hz rp fun ts H2 e rp2 ex2 hk => ?_
  subst e
  rw [List.map_map] at hn
  refine ⟨ts, rfl, by rw [List.length_map] at hl; exact hl, hn, fun t ht => ?_, ?_⟩
  · obtain ⟨p, e, h1⟩ := tup_bls (hk t ht)
    cases e
    exact h1
  · refine ha ρ _ h O σ H2 _ rp2 fun v x b H3 h1 rp3 e3 rx => ?_
    cases x with
    | tup ds =>
      obtain ⟨bs, eb, h2⟩ := optP_some h1
      rw [asBls_eq eb] at rx
      obtain ⟨k, ek, hk3⟩ := tup_bls rx
      refine ⟨k, bs, dflt, ek, rfl, hk3, fun t ht => ?_, q _ _ _ H3 h2 rp3 (ex2.trans e3) rfl⟩
      obtain ⟨p, e, h1⟩ := tup_bls ((hk t ht).up e3)
      cases e
      exact h1
    | _ => exact h1.elim
theorem go_tabG {tab : List BK} {dflt : Str} {a : DE} {ρ : DEnv} {P : D → Bool → Prop} : Go (dTabG tab dflt a ρ P) = Go (a ρ fun x _ => tupBls x fun bs => P (.str (tabAt tab bs dflt)) false) := (rfl)
theorem go_tupBls {ds : List D} {P : List Bool → Prop} : Go (tupBls (.tup ds) P) = Go (optP (asBls ds) P) := (rfl)
end QD

/-! QD43: len(x) by an own __len__, `y in x` by an own __contains__. -/
namespace QD
open PySem L2
theorem obj_len : typeLookup (.type "object") "__len__" = pure none := by rw [typeLookup_type, builtinLookup_eq_fast]; kernel_rfl
theorem obj_contains : typeLookup (.type "object") "__contains__" = pure none := by rw [typeLookup_type, builtinLookup_eq_fast]; kernel_rfl
def rLenOwn (C : Addr) (sp : Sp) (E : XK) : List V → Hp → VK → Prop := fun xs H Q => ∃ a dx fs, xs = [.ref a] ∧ H a = some (.ins C dx fs) ∧ sp [.ref a] H (fun v H' => ∃ n, v = .int n ∧ 0 ≤ n ∧ n < 2 ^ 63 ∧ Q (.int n) H') E
theorem q_lenOwn {X : Cx} {CX : CXT} {k : Nat} {C f N : Addr} {fd : FuncData} {ps : List Str} {sp : Sp} {E : XK} (F : FnOk X.prog X.w X.K X.mg X.base CX k f fd ps sp) (hr : Room (k + 1) X.A) (hb : Binds X.K fd ps []) (hx : Passes CX X E) (o : OwnC X.K C N f "__len__") : CallR X (.builtin "len") (rLenOwn C sp E) := by
  obtain ⟨nm, q, bs, hdct, sn, sub, ab, col, dd, k0, k1, k2, k3, k5, newId, lk⟩ := o.ns.ex
  intro pins s σ H xs us Q I rv h
  obtain ⟨a, dx, fs, rfl, ha, h⟩ := h
  cases rv with
  | cons e1 e2 =>
  cases e2
  have e1 : _ = Value.ref a := e1
  subst e1
  obtain ⟨od, hi⟩ := inst_of (I.hok a _ ha)
  have oe := own_sp I.kIn hi lk o.ns.ok o.at_ o.tf cmp_object.mro obj_len
  have run := run_fn (X := inX X) (dvs := []) (us := [.ref a]) (vs := [.ref a]) F (room_in hr) hb .nil (fun p σ H s e s' i c => hx p σ H s e s' (inv_out i) c) (inv_in I) (.cons rfl .nil) h
  obtain ⟨heap, gens, drawn, toks, os⟩ := s
  refine len_own oe (thn run fun z s' hz => ?_)
  obtain ⟨v, H', i', r', n, rfl, n0, n1, q'⟩ := hz
  obtain ⟨tk, rfl⟩ := r'
  exact ⟨n, tk, rfl, n0, n1, .int n, H', (inv_out i').tok _, ⟨_, rfl⟩, q'⟩
def dLenOwn (bag : Option (Addr × Addr)) (C : Addr) (dT : DF) : DC := fun xs P => match xs with | [x] => asIns C x fun _ => dT bag [x] (fun z => asInt z fun n => 0 ≤ n ∧ n < 2 ^ 63 ∧ P (.int n)) fun _ _ => False | _ => False
theorem as_int {K : PySem.W.Frag} {H : Hp} {v : V} : ∀ {d : D} {P : Int → Prop}, R K H d v → asInt d P → ∃ n, v = .int n ∧ P n
  | .int n, _, r, h => ⟨n, r, h⟩
  | .non, _, _, h => h.elim
  | .bl _, _, _, h => h.elim
  | .str _, _, _, h => h.elim
  | .lst _, _, _, h => h.elim
  | .tup _, _, _, h => h.elim
  | .ins _ _, _, _, h => h.elim
  | .raw _, _, _, h => h.elim
  | .lam _, _, _, h => h.elim
  | .dk _, _, _, h => h.elim
  | .dt _, _, _, h => h.elim
theorem as_bl {K : PySem.W.Frag} {H : Hp} {v : V} : ∀ {d : D} {P : Bool → Prop}, R K H d v → asBl d P → ∃ n, v = .bl n ∧ P n
  | .bl n, _, r, h => ⟨n, r, h⟩
  | .non, _, _, h => h.elim
  | .int _, _, _, h => h.elim
  | .str _, _, _, h => h.elim
  | .lst _, _, _, h => h.elim
  | .tup _, _, _, h => h.elim
  | .ins _ _, _, _, h => h.elim
  | .raw _, _, _, h => h.elim
  | .lam _, _, _, h => h.elim
  | .dk _, _, _, h => h.elim
  | .dt _, _, _, h => h.elim
theorem sc_lenOwn {K : PySem.W.Frag} {c : Fm} {H0 : Hp} {C : Addr} {dT : DF} {E : XK} : SimC K c H0 (rLenOwn C (spD K 1 dT) E) (dLenOwn c.bag C dT) := by
  intro xs P h O H Q vs b σ ρ rp rx q
  unfold dLenOwn at h
  split at h
  · rename_i x
    obtain ⟨v, r, rfl, rx, e⟩ := rx
    have e : r = [] := e
    subst e
    obtain ⟨fs, rfl, h, a, dx, gs, rfl, h1, h2⟩ := rb_ins rx h
    refine ⟨a, dx, gs, rfl, h1, sp_call (b := b) rp (show RBA K c O H b [.ins C fs] [.ref a] from ⟨_, _, rfl, rx, rfl⟩) rfl h fun v d H' hp rp' ex r => ?_⟩
    obtain ⟨n, e, n0, n1, hp⟩ := as_int r.here hp
    exact ⟨n, e, n0, n1, q _ _ _ hp ex rp'.inv rfl⟩
  · exact h.elim
theorem go_lenOwn {bag : Option (Addr × Addr)} {C : Addr} {dT : DF} {fs : List (Str × D)} {P : D → Prop} : Go (dLenOwn bag C dT [.ins C fs] P) = Go (dT bag [.ins C fs] (fun z => asInt z fun n => 0 ≤ n ∧ n < 2 ^ 63 ∧ P (.int n)) fun _ _ => False) := by
  unfold Go dLenOwn asIns
  simp
def rInOwn (C : Addr) (sp : Sp) (E : XK) : R2 := fun x y H Q => ∃ a dx fs, y = .ref a ∧ H a = some (.ins C dx fs) ∧ sp [.ref a, x] H (fun v H' => ∃ k, v = .bl k ∧ Q (.bl k) H') E
theorem q_inOwn {X : Cx} {CX : CXT} {k : Nat} {C f N : Addr} {fd : FuncData} {ps : List Str} {sp : Sp} {E : XK} (F : FnOk X.prog X.w X.K X.mg X.base CX k f fd ps sp) (hr : Room k X.A) (hb : Binds X.K fd ps []) (hx : Passes CX X E) (o : OwnC X.K C N f "__contains__") : OpR X (compareOp .In) (rInOwn C sp E) := by
  obtain ⟨nm, q, bs, hdct, sn, sub, ab, col, dd, k0, k1, k2, k3, k5, newId, lk⟩ := o.ns.ex
  intro pins s σ H x y v u Q I rv ru h
  obtain ⟨a, dx, fs, rfl, ha, h⟩ := h
  cases (show u = .ref a from ru)
  obtain ⟨od, hi⟩ := inst_of (I.hok a _ ha)
  have oe := own_sp I.kIn hi lk o.ns.ok o.at_ o.tf cmp_object.mro obj_contains
  have run := run_fn (dvs := []) (us := [.ref a, v]) (vs := [.ref a, x]) F hr hb .nil hx I (.cons rfl (.cons rv .nil)) h
  obtain ⟨heap, gens, drawn, toks, os⟩ := s
  show wpAny _ _ (do return Value.bool (← contains (.ref a) v) : Sem Value) _ _ _
  refine wpAny_bind ?_
  unfold contains
  refine wpAny_holding ?_
  have hs : stdlibNamesSay? (.ref a) v = none := rfl
  rw [hs]
  refine wpAny_bind (wpAny_specialOf_own oe ?_)
  have hf : (some (Value.ref f) == some Value.none) = false := rfl
  rw [hf]
  refine wpAny_ite_false rfl ?_
  unfold callSpecialUnlessNone?
  refine wpAny_bind (wpAny_bind (wpAny_specialOf_own oe ?_))
  obtain ⟨_, of, _, _, _, _, _, _, _, _, _, _, _, _, _, _, _, _, _, _, _, _, _, _, _, _, hfo, hfc, _, _⟩ := oe
  refine wpAny_holding (wpAny_bind (wpAny_bindSpecial_def (s := ⟨heap, gens, drawn, toks, os⟩) hfo hfc ?_))
  dsimp only
  refine wpAny_ite_false rfl ?_
  refine wpAny_bind (thn run fun z s' hz => ?_)
  obtain ⟨v', H', i', r', kk, rfl, q'⟩ := hz
  cases (show z = Value.bool kk from r')
  refine wpAny_pure ?_
  exact wpAny_truthy_bool (wpAny_pure ⟨.bl kk, H', i', rfl, q'⟩)
def dInOwn (bag : Option (Addr × Addr)) (C : Addr) (dT : DF) : DR := fun x y P => asIns C y fun _ => dT bag [y, x] (fun z => asBl z fun k => P (.bl k)) fun _ _ => False
theorem sr_inOwn {K : PySem.W.Frag} {c : Fm} {H0 : Hp} {C : Addr} {dT : DF} {E : XK} : SimR K c H0 (rInOwn C (spD K 2 dT) E) (dInOwn c.bag C dT) := by
  intro x y P h O H Q v u b σ ρ rp rx ry q
  obtain ⟨fs, rfl, h, a, dx, gs, rfl, h1, h2⟩ := rb_ins ry h
  refine ⟨a, dx, gs, rfl, h1, sp_call (b := b) rp (show RBA K c O H b [.ins C fs, x] [.ref a, v] from ⟨_, _, rfl, ry, _, _, rfl, rx, rfl⟩) rfl h fun v d H' hp rp' ex r => ?_⟩
  obtain ⟨n, e, hp⟩ := as_bl r.here hp
  exact ⟨n, e, q _ _ _ hp ex rp'.inv rfl⟩
theorem go_inOwn {bag : Option (Addr × Addr)} {C : Addr} {dT : DF} {fs : List (Str × D)} {x : D} {P : D → Prop} : Go (dInOwn bag C dT x (.ins C fs) P) = Go (dT bag [.ins C fs, x] (fun z => asBl z fun k => P (.bl k)) fun _ _ => False) := by
  unfold Go dInOwn asIns
  simp
end QD

/-! QD44: x == None by an own __eq__. -/
namespace QD
open PySem L2
theorem hu1 {A : Around} {k : Nat} (hr : Room k A) : A.units + 1 < cLine := Nat.lt_of_le_of_lt (by omega) (hu64 hr)
def rEqNon (C : Addr) (sp : Sp) (E : XK) : R2 := fun x y H Q => ∃ a dx fs, x = .ref a ∧ H a = some (.ins C dx fs) ∧ y = .non ∧ sp [x, y] H Q E
/-- what == of an own class with None asks -/
structure EqN (K : PySem.W.Frag) (C f : Addr) : Prop where
  at_ : PySem.W.findIn K (.ref C) "__eq__" = some (some (.ref f))
  fn : PySem.W.isFn K (.ref f) = true
  nf : PySem.W.notFirst K C (.type "NoneType") = true
theorem q_eqNon {X : Cx} {CX : CXT} {k : Nat} {C f : Addr} {fd : FuncData} {ps : List Str} {sp : Sp} {E : XK} (F : FnOk X.prog X.w X.K X.mg X.base CX k f fd ps sp) (hr : Room k X.A) (o : EqN X.K C f) (hb : Binds X.K fd ps []) (hx : Passes CX X E) : OpR X (compareOp .Eq) (rEqNon C sp E) := by
  intro pins s σ H x y v u Q I rv ru h
  obtain ⟨a, dx, fs, rfl, ha, rfl, h⟩ := h
  cases (show v = .ref a from rv)
  cases (show u = .none from ru)
  obtain ⟨od, hi⟩ := inst_of (I.hok a _ ha)
  obtain ⟨m, fr⟩ := I.fr
  refine PySem.W.cmp_ofEq ?_
  have run := run_fn (dvs := []) (us := [.ref a, .none]) (vs := [.ref a, .non]) F hr hb .nil hx I (.cons rfl (.cons rfl .nil)) h
  have back : wpAny (model X.prog X.w) X.A (call (.ref f) [.ref a, .none]) (PySem.W.CmpBack (EP X pins σ Q)) X.xe s := thn run fun z s' h => (by
    obtain ⟨v, H', i', r', q'⟩ := h
    cases z with
    | notImplemented => cases v <;> simp [RelV] at r'
    | _ => exact ⟨v, H', i', r', q'⟩)
  exact PySem.W.cmp_K (Nat.lt_of_le_of_lt (Nat.le_add_right _ _) (hu64 hr)) fr I.ok.mod.kin hi (PySem.W.looks_typeIn I.kIn (t := .type "NoneType") rfl) o.nf o.at_ o.fn back
def dEqNon (bag : Option (Addr × Addr)) (C : Addr) (dT : DF) : DR := fun x y P => asIns C x fun _ => y = .non ∧ dT bag [x, y] P fun _ _ => False
theorem sr_eqNon {K : PySem.W.Frag} {c : Fm} {H0 : Hp} {C : Addr} {dT : DF} {E : XK} : SimR K c H0 (rEqNon C (spD K 2 dT) E) (dEqNon c.bag C dT) := by
  intro x y P h O H Q v u b σ ρ rp rx ry q
  obtain ⟨fs, rfl, ⟨rfl, h⟩, a, dx, gs, rfl, h1, h2⟩ := rb_ins rx h
  have ru : u = .non := ry
  exact ⟨a, dx, gs, rfl, h1, ru, sp_call (b := b) rp (show RBA K c O H b [.ins C fs, .non] [.ref a, u] from ⟨_, _, rfl, rx, _, _, rfl, ry, rfl⟩) rfl h fun v d H' hp rp' ex r => q _ _ _ hp ex rp'.inv r⟩
theorem go_eqNon {bag : Option (Addr × Addr)} {C : Addr} {dT : DF} {fs : List (Str × D)} {P : D → Prop} : Go (dEqNon bag C dT (.ins C fs) .non P) = Go (dT bag [.ins C fs, .non] P fun _ _ => False) := by
  unfold Go dEqNon asIns
  simp
end QD

/-! QD45: shapes as texts: holes and words by turns. -/
namespace QD
open PySem L2
abbrev hU : Str := "_"
def endH (post : Bool) : List Str := if post then [hU] else []
/-- the words, a hole between each two -/
def inter : List Str → List Str
  | [] => []
  | [w] => [w]
  | w :: v :: r => w :: hU :: inter (v :: r)
def partsOf (pre post : Bool) (ws : List Str) : List Str := endH pre ++ (inter ws ++ endH post)
def formedS (pre post : Bool) (ws : List Str) : Str := (if pre then ("_ " : Str) else "") ++ Txt.join " _ " ws ++ (if post then (" _" : Str) else "")
def holesOf (pre post : Bool) (ws : List Str) : Nat := (if pre then 1 else 0) + (ws.length - 1) + (if post then 1 else 0)
theorem emp_app (t : Str) : ("" : Str) ++ t = t := by
  rw [show ("" : Str) = Str.empty by decide +kernel]
  exact Str.empty_append t
theorem inter_ne {v : Str} {r : List Str} : ∃ a t, inter (v :: r) = a :: t ∧ a = v := by
  cases r with
  | nil => exact ⟨v, [], rfl, rfl⟩
  | cons u r => exact ⟨v, _, rfl, rfl⟩
theorem join_inter : ∀ {ws : List Str}, Str.join " " (inter ws) = Str.join " _ " ws
  | [] => rfl
  | [w] => rfl
  | w :: v :: r => by
    obtain ⟨a, t, e, _⟩ := inter_ne (v := v) (r := r)
    have ih := join_inter (ws := v :: r)
    show w ++ " " ++ Str.join " " (hU :: inter (v :: r)) = w ++ " _ " ++ Str.join " _ " (v :: r)
    rw [← ih, e]
    show w ++ " " ++ ("_" ++ " " ++ Str.join " " (a :: t)) = _
    have e3 : (" _ " : Str) = " " ++ ("_" ++ " ") := by decide +kernel
    rw [e3]
    simp only [Str.append_assoc]
theorem join_snoc : ∀ {xs : List Str} {x : Str}, xs ≠ [] → Str.join " " (xs ++ [x]) = Str.join " " xs ++ " " ++ x
  | [], _, h => absurd rfl h
  | [a], x, _ => rfl
  | a :: b :: r, x, _ => by
    show a ++ " " ++ Str.join " " ((b :: r) ++ [x]) = a ++ " " ++ Str.join " " (b :: r) ++ " " ++ x
    rw [join_snoc (by simp)]
    simp only [Str.append_assoc]
theorem join_parts {pre post : Bool} {ws : List Str} (hne : ws ≠ []) : Txt.join " " (partsOf pre post ws) = formedS pre post ws := by
  obtain ⟨v, r, rfl⟩ : ∃ v r, ws = v :: r := by
    cases ws with
    | nil => exact absurd rfl hne
    | cons v r => exact ⟨v, r, rfl⟩
  obtain ⟨a, t, e, _⟩ := inter_ne (v := v) (r := r)
  have h0 : inter (v :: r) ≠ [] := by rw [e]; simp
  have h1 : Str.join " " (inter (v :: r) ++ endH post) = Str.join " _ " (v :: r) ++ (if post then (" _" : Str) else "") := by
    cases post with
    | true =>
      show Str.join " " (inter (v :: r) ++ [hU]) = Str.join " _ " (v :: r) ++ " _"
      rw [join_snoc h0, join_inter]
      have e3 : (" _" : Str) = " " ++ "_" := by decide +kernel
      rw [e3]
      simp only [Str.append_assoc]
    | false =>
      show Str.join " " (inter (v :: r) ++ []) = Str.join " _ " (v :: r) ++ ""
      rw [List.append_nil, join_inter]
      rw [show ("" : Str) = Str.empty by decide +kernel]
      exact (Str.append_empty _).symm
  unfold formedS partsOf
  rw [TL.join_eq, TL.join_eq]
  cases pre with
  | true =>
    have hx : (inter (v :: r) ++ endH post) = a :: (t ++ endH post) := by rw [e]; rfl
    show Str.join " " (hU :: (inter (v :: r) ++ endH post)) = ("_ " : Str) ++ Str.join " _ " (v :: r) ++ _
    rw [hx]
    show "_" ++ " " ++ Str.join " " (a :: (t ++ endH post)) = _
    rw [← hx, h1]
    have e3 : ("_ " : Str) = "_" ++ " " := by decide +kernel
    rw [e3]
    simp only [Str.append_assoc]
  | false =>
    show Str.join " " (inter (v :: r) ++ endH post) = ("" : Str) ++ Str.join " _ " (v :: r) ++ _
    rw [h1]
    rw [show ("" : Str) ++ Str.join " _ " (v :: r) = Str.join " _ " (v :: r) from emp_app _]
theorem ev2_cons {α : Type} (a : α) (l : List α) : ev2 (a :: l) = a :: ev2 (l.drop 1) := by
  cases l with
  | nil => rfl
  | cons b r => rfl
theorem ev2_inter {post : Bool} : ∀ {ws : List Str}, ws ≠ [] → ev2 (inter ws ++ endH post) = ws
  | [], h => absurd rfl h
  | [w], _ => by cases post <;> rfl
  | w :: v :: r, _ => by
    show w :: ev2 (inter (v :: r) ++ endH post) = _
    rw [ev2_inter (by simp)]
theorem ev2_holes {post : Bool} : ∀ {ws : List Str}, ws ≠ [] → ev2 ((inter ws ++ endH post).drop 1) = List.replicate ((ws.length - 1) + if post then 1 else 0) hU
  | [], h => absurd rfl h
  | [w], _ => by cases post <;> rfl
  | w :: v :: r, _ => by
    show ev2 (hU :: (inter (v :: r) ++ endH post)) = _
    rw [ev2_cons, ev2_holes (by simp)]
    show hU :: List.replicate (r.length + 1 - 1 + if post then 1 else 0) hU = List.replicate (r.length + 1 + 1 - 1 + if post then 1 else 0) hU
    rw [← List.replicate_succ]
    congr 1
    omega
theorem partsOf_words {pre post : Bool} {ws : List Str} (h : ws ≠ []) : ev2 ((partsOf pre post ws).drop (if pre then 1 else 0)) = ws := by
  cases pre with
  | true => exact ev2_inter (post := post) h
  | false => exact ev2_inter (post := post) h
theorem partsOf_holes {pre post : Bool} {ws : List Str} (h : ws ≠ []) : ev2 ((partsOf pre post ws).drop (if pre then 0 else 1)) = List.replicate (holesOf pre post ws) hU := by
  cases pre with
  | true =>
    show ev2 (hU :: (inter ws ++ endH post)) = List.replicate (1 + (ws.length - 1) + if post then 1 else 0) hU
    rw [ev2_cons, ev2_holes h, ← List.replicate_succ]
    congr 1
    omega
  | false =>
    show ev2 ((inter ws ++ endH post).drop 1) = List.replicate (0 + (ws.length - 1) + if post then 1 else 0) hU
    rw [ev2_holes h]
    congr 1
    omega
end QD

/-! QD46: calls with keywords of defs without defaults. -/
namespace QD
open PySem L2
theorem kb_pos {K : PySem.W.Frag} {x qual : Str} {st : Stmt} {f : Addr} {fd : FuncData} {ps ks : List Str} {n : Nat} {S : List (Nat × Nat)} (F : Fun K x qual st f fd)
    (h : ∀ (kV doc pm : Value) (an : Option Addr) (cdv ct : Value) (us ws : List Value), us.length = n → ws.length = ks.length → bindArgs (PySem.W.fnOf x qual (defArgs st) (defBody st) (defScope st) .none kV doc pm an cdv ct) ⟨us, ks.zip ws⟩ = pure (ps.zip (sel S us [] [] ws))) :
    ∃ its mv : List Value, KBn K fd ps n ks (fun us ws => sel S us its mv ws) (fun vs zs => sel S vs [] [] zs) := by
  obtain ⟨oc, od, kV, doc, pm, an, cdv, ct, osl, rfl, lk, hcd⟩ := F.ex
  exact ⟨[], [], ⟨fun s us ws X l1 l2 => .of_eq (h kV doc pm an cdv ct us ws l1 l2), fun r1 r2 => vals_sel r1 .nil .nil r2 S⟩⟩
theorem okI0 {P : Program} {w : World} {K : PySem.W.Frag} {mg : Str → Option Value} {base : Heap} {x qual : Str} {st : Stmt} {f : Addr} {fd : FuncData} {N ps : List Str} {k n : Nat} {C : Addr} {dT : DI0}
    (F : Fun K x qual st f fd) (S : FnScope N ps (defScope st)) (hn : ps.length = n + 1) (hN : 0 < N.length)
    (hbody : ∀ (cdv : Value) (A : Around) (outer : List Env) (s : Shared) (H H1 : Hp) (E : XK) (c : Fm), Room k (A.deeper (PyProof.Rows.envOfC qual (defScope st) s.heap.objs.size f cdv)) →
      ∃ ts dsb, PSs (cxOf CX0 P w K mg base N qual (defScope st) f cdv A outer s H E).nox (defBody st) ts ∧ SimS K c H1 ts dsb ∧ ∀ ds Pd Er, ds.length = n → dT c.bag ds Pd Er → dsb { nx := fun ρ => objE C ρ[0]? Pd, rt := fun _ => False } (some (Ent.own (.ins C [])) :: dstart (N.length - 1) ds)) :
    FnOk P w K mg base CX0 (k + 1) f fd ps (spI K C n dT) := by
  refine F.ok S (fun vs H Q E h => ?_) (fun cdv A outer s H vs Q E hr h => ?_)
  · obtain ⟨x, dx, ws, H1, c, ds, Pd, Er, rfl, rfl, hx, hdx, hne, hl, i, ra, hd, q, qe⟩ := h
    rw [List.length_cons, ra.length, hl, hn]
  · obtain ⟨x, dx, ws, H1, c, ds, Pd, Er, rfl, rfl, hx, hdx, hne, hl, i, ra, hd, q, qe⟩ := h
    obtain ⟨ts, dsb, hp, hs, hb⟩ := hbody cdv A outer s _ H1 E (c.at x) hr
    refine ⟨ts, hp, ?_⟩
    have rp := rep_startI (K := K) (C := C) i ra hx hdx hne hN
    refine hs _ _ (hb ds Pd Er hl hd) [x] _ _ _ (but (upd (upd H1 dx (.own x)) x (.ins C dx [])) (c.M ++ [x])) rp (Grow.refl _) ⟨fun ρ O σ H' h rp' _ => ?_, fun v d H' h => h.elim, fun ρ O σ H' h => h.elim, fun ρ O σ H' h => h.elim⟩
    obtain ⟨fs, e0, h2⟩ := entObj (i := 0) h
    obtain ⟨p, o, hv, hp', hx', ow⟩ := rp'.own 0 _ e0
    have hp0 : p = x := by
      have := (rp'.me x C fs rfl e0).symm.trans hv
      injection this with this
      injection this with this
      injection this with this
      exact this.symm
    subst hp0
    exact q fs H' h2 rp'.inv rp'.ent (OwnR.R (but_of (rp'.notM hp') hx') (ow.grow (but_le fun a z => List.mem_append_left _ z)))
end QD

/-! QD47: constants of a class, by the class. -/
namespace QD
open PySem L2
def dCVal (C : Addr) (d : D) (da : DE) : DE := fun ρ P => da ρ fun x _ => isRaw C x ∧ P d false
theorem sim_cval {K : PySem.W.Frag} {c : Fm} {H0 : Hp} {ta : TE} {da : DE} {C : Addr} {f : Str} {v : V} {d : D} (cr : ClX.CRead K C (.type "type")) (cv : ∃ u, ClX.CVal K C (.type "type") f v u) (hv : ∀ H, R K H d v) (ha : SimE K c H0 ta da) :
    SimE K c H0 (ClX.tCVal K ta f) (dCVal C d da) := by
  intro ρ P h O σ H Q rp q
  refine ha ρ _ h O σ H _ rp fun w x b H1 h1 rp1 e1 rx => ?_
  obtain ⟨u, cv⟩ := cv
  exact ⟨C, _, v, u, isRaw_of h1.1 rx.here, cr, cv, q v d false H1 h1.2 rp1 e1 (hv _)⟩
theorem go_cval {C : Addr} {d : D} {a : DE} {ρ : DEnv} {P : D → Bool → Prop} : Go (dCVal C d a ρ P) = Go (a ρ fun x _ => isRaw C x ∧ P d false) := (rfl)
end QD

/-! QD48: list(a text). -/
namespace QD
open PySem L2
abbrev signsV (x : Str) : List V := x.cps.toList.map fun k => V.str ⟨#[k]⟩
abbrev signsD (x : Str) : List D := x.cps.toList.map fun k => D.str ⟨#[k]⟩
def rListStr : List V → Hp → VK → Prop := fun xs H Q => ∃ x, xs = [.str x] ∧ x.length ≤ sizeLine ∧ ∀ l, H l = none → Q (.ref l) (upd H l (.lst (signsV x)))
theorem q_listStr {X : Cx} (hc : X.calm = true) : CallR X (.type "list") rListStr := by
  intro pins s σ H xs us Q I r h
  obtain ⟨x, rfl, hz, q⟩ := h
  obtain ⟨u, rfl, t, rfl⟩ := vals1 r
  refine call_list_str (I.ok.hd hc) x t (hn := hz) fun h' tk acc' c' hk hS' hacc => ?_
  have r' : Vals (signsV x) acc'.toList := by
    refine vals_of_idx _ _ ?_ fun j u hu => ?_
    · rw [List.length_map, Array.length_toList, Array.length_toList]
      exact hacc.1
    · obtain ⟨c, u', hc', rfl⟩ := hacc.2 j u (by simpa using hu)
      exact ⟨V.str ⟨#[c]⟩, by rw [List.getElem?_map, Array.getElem?_toList, hc']; rfl, ⟨_, rfl⟩⟩
  refine ⟨.ref s.heap.objs.size, _, I.laid (t' := tk) hk (Nat.le_refl _) (show ObjOk X.prog X.w _ h' _ (.lst _) from ⟨?_, acc'.toList, c', r', ?_⟩), rfl, q _ (I.hok.fresh (Nat.le_refl _))⟩
  · rw [List.length_map, Array.length_toList]; exact hz
  · rw [Array.toArray_toList]; exact hS'
abbrev rListAny (K : PySem.W.Frag) : List V → Hp → VK → Prop := fun xs H Q => rListOf K xs H Q ∨ rListStr xs H Q
theorem q_listAny {X : Cx} (hc : X.calm = true) : CallR X (.type "list") (rListAny X.K) := CallR.or q_listOf (q_listStr hc)
def dListAny : DC
  | [.lst ds], P => P (.lst ds)
  | [.tup ds], P => P (.lst ds)
  | [.str x], P => x.length ≤ sizeLine ∧ P (.lst (signsD x))
  | _, _ => False
theorem signs_R {K : PySem.W.Frag} {H : Hp} (x : Str) : RA K H (signsD x) (signsV x) := by
  have := RA.strs' (K := K) (H := H) (x.cps.toList.map fun k => (⟨#[k]⟩ : Str))
  rw [List.map_map, List.map_map] at this
  exact this
section
variable {K : PySem.W.Frag} {c : Fm} {H0 : Hp}
theorem sc_listAny : SimC K c H0 (rListAny K) dListAny := by
  intro xs P h O H Q vs b σ ρ rp rx q
  unfold dListAny at h
  split at h
  · exact .inl (sc_listOf (K := K) (c := c) (H0 := H0) [.lst _] P h O H Q vs b σ ρ rp rx q)
  · exact .inl (sc_listOf (K := K) (c := c) (H0 := H0) [.tup _] P h O H Q vs b σ ρ rp rx q)
  · obtain ⟨v, r, rfl, h1, h2⟩ := rx.here
    rw [show r = [] from h2, show v = .str _ from h1]
    refine .inr ⟨_, rfl, h.1, fun l hl => ?_⟩
    obtain ⟨z1, z2, z3⟩ := sr_new (b := b) rp hl (RA.grow (fun _ _ z => z) _ _ (signs_R _))
    exact q _ _ _ h.2 z1 z2 z3
  · exact h.elim
end
theorem go_lal {xs : List D} {Pd : D → Prop} : Go (dListAny [.lst xs] Pd) = Go (Pd (.lst xs)) := (rfl)
theorem go_lat {xs : List D} {Pd : D → Prop} : Go (dListAny [.tup xs] Pd) = Go (Pd (.lst xs)) := (rfl)
theorem go_las {x : Str} {Pd : D → Prop} : Go (dListAny [.str x] Pd) = Go (x.length ≤ sizeLine ∧ Pd (.lst (signsD x))) := (rfl)
theorem dListAny_congr {xs ys : List D} {P : D → Prop} (h : xs = ys) : dListAny xs P = dListAny ys P := by rw [h]
theorem dw1 {ρ : DEnv} {i : Nat} : dwipe ρ [i] = ρ.set i none := (rfl)
theorem dw2 {ρ : DEnv} {i j : Nat} : dwipe ρ [i, j] = (ρ.set j none).set i none := (rfl)
end QD

/-! QD49: defs with a star parameter behind one other; x op= e. -/
namespace QD
open PySem L2
theorem cxNew {P : Program} {w : World} : CXNew (CXR P w) := fun outer s H h2 p rest E e s' kp hp hn c => by
  obtain ⟨a, B, H', cls, d, e1, fl, hok, ub, na, os, ag, hE⟩ := c
  have ne : ∀ b o, s.heap.get? b = some o → b ≠ p := fun b o q z => by
    have := Heap.lt_size q
    subst z
    exact absurd this (Nat.not_lt.mpr hp)
  have up : ∀ {b o}, H b = some o → upd H p (.tup rest) b = some o := fun {b o} q => by
    rw [upd_ne (ne_of_none q hn)]
    exact q
  exact ⟨a, B, H', cls, d, e1, fl, hok, ⟨fun b o q n f => ub.keep b o (kp b o q) (by rw [upd_ne (ne b o q)]; exact n) f, fun b o q f => ub.slot b o (kp b o q) f, fun b o q n => ub.free b o (kp b o q) (by rw [upd_ne (ne b o q)]; exact n), fun b o q f => ub.there b o (kp b o q) f,
    fun b xs q => ub.tups b xs (up q), fun b o xs q => ub.frzs b o xs (up q), fun b ps q => ub.tbls b ps (up q)⟩, na, os, ag, hE⟩
/-- what a def with a star parameter asks: one value, then at most six -/
def spV (K : PySem.W.Frag) (dT : DF) : Sp := fun vs H Q E => ∃ v rest, vs = v :: rest ∧ rest.length ≤ 6 ∧ ∀ p, H p = none → spD K 2 dT [v, .ref p] (upd H p (.tup rest)) Q E
theorem bind6 {fd : FuncData} {pa pv : Str} (h : ∀ (u : Value) (rest : List Value), rest.length ≤ 5 → bindArgs fd ⟨u :: rest, []⟩ = (newTuple rest >>= fun t => pure [(pa, u), (pv, t)]))
    (h6 : ∀ u a b c d e f, bindArgs fd ⟨[u, a, b, c, d, e, f], []⟩ = (newTuple [a, b, c, d, e, f] >>= fun t => pure [(pa, u), (pv, t)])) :
    ∀ (u : Value) (rest : List Value), rest.length ≤ 6 → bindArgs fd ⟨u :: rest, []⟩ = (newTuple rest >>= fun t => pure [(pa, u), (pv, t)])
  | u, [a, b, c, d, e, f], _ => h6 u a b c d e f
  | u, [], _ => h u _ (by simp)
  | u, [a], _ => h u _ (by simp)
  | u, [a, b], _ => h u _ (by simp)
  | u, [a, b, c], _ => h u _ (by simp)
  | u, [a, b, c, d], _ => h u _ (by simp)
  | u, [a, b, c, d, e], _ => h u _ (by simp)
  | _, _ :: _ :: _ :: _ :: _ :: _ :: _ :: r, h => absurd h (by simp only [List.length_cons]; omega)
/-- a def that may raise, with a star parameter, by its data -/
theorem okVX {P : Program} {w : World} {K : PySem.W.Frag} {mg : Str → Option Value} {base : Heap} {x qual pa pv : Str} {st : Stmt} {f : Addr} {fd : FuncData} {N : List Str} {k : Nat} {dT : DF} (F : Fun K x qual st f fd) (S : FnScope N [pa, pv] (defScope st))
    (hb : ∀ (kV doc pm : Value) (an : Option Addr) (cdv ct : Value) (u : Value) (rest : List Value), rest.length ≤ 6 → bindArgs (PySem.W.fnOf x qual (defArgs st) (defBody st) (defScope st) .none kV doc pm an cdv ct) ⟨u :: rest, []⟩ = (newTuple rest >>= fun t => pure [(pa, u), (pv, t)]))
    (hbody : ∀ (cdv : Value) (A : Around) (outer : List Env) (s : Shared) (H : Hp) (E : XK) (c : Fm), Room k (A.deeper (PyProof.Rows.envOfC qual (defScope st) s.heap.objs.size f cdv)) →
      ∃ (ts : TS) (dsb : DEr → DS), PSs (cxOf (CXR P w) P w K mg base N qual (defScope st) f cdv A outer s H E) (defBody st) ts ∧ (∀ Er, ErOk K c H E Er → SimS K c H ts (dsb Er)) ∧ ∀ ds Pd Er, ds.length = 2 → dT c.bag ds Pd Er → dsb Er { nx := fun _ => Pd .non, rt := Pd } (dstart N.length ds)) :
    FnR P w K mg base (CXR P w) (k + 1) f (spV K dT) := by
  obtain ⟨oc, od, kV, doc, pm, an, cdv, ct, osl, rfl, lk, hcd⟩ := F.ex
  refine fn_ofV (nmax := 6) (sp := spD K 2 dT) lk hcd S (by decide) (hb kV doc pm an cdv ct) cxNew fun A outer s H vs Q E hr h => ?_
  obtain ⟨c, ds, Pd, Er, hl, i, ra, hd, q, qe⟩ := h
  obtain ⟨ts, dsb, hp, hs, hb⟩ := hbody cdv A outer s H E c hr
  refine ⟨ts, hp, ?_⟩
  refine hs Er (fun C d gs fs H' hf i' ex hx rf => qe C d gs fs H' hf i' ex hx rf) _ _ (hb ds Pd Er hl hd) [] _ H _ (but H c.M) (rep_start i ra) (by rw [List.append_nil]; exact Grow.refl _) ⟨fun ρ O σ H' h rp _ => q _ _ H' h rp.inv rp.ent rfl, fun v d H' h i ex r => q v d H' h i ex r, fun ρ O σ H' h => h.elim, fun ρ O σ H' h => h.elim⟩
/-- o.m() by a positional promise -/
theorem pe_methR0 {X : Cx} {CX : CXT} {k : Nat} {C f : Addr} {m : Str} {sp : Sp} {E : XK} {o : Expr} {ta : TE} {apos pos : Pos} {pl : Sem Bool} (he : PE X o ta) (c : Cls X.K C) (hm : Meth X.K C m f)
    (F : FnR X.prog X.w X.K X.mg X.base CX k f sp) (hr : Room k X.A) (hx : Passes CX X E)
    (ht : eval (.Call (.Attribute o m apos) [] [] pos) X.env = (do
      let ov ← eval o X.env
      standAt apos.atName
      let (f, first) ← holding [ov] (getMethod ov m pl)
      callWith pos f first (backTo pos (starEach [] X.env)) (backToKw pos (keywordEach [] X.env))) := by rfl) :
    PE X (.Call (.Attribute o m apos) [] [] pos) (tMethR C m sp E ta tNil) := by
  refine ⟨fun pins s σ H Q I h => PySem.W.methodCall_KW (pl := pl) (thn (he.run pins s σ H _ I h) fun u s1 ⟨x, H1, I1, rx, a, dx, fs, ex, ea, l, q⟩ => ?_) ht⟩
  subst ex
  obtain rfl : u = Value.ref a := rx
  exact getmeth_ok I1 ea c hm l (PySem.W.callWith_K0 (first := [.ref a]) I1.kIn hm.kp (wpAny_call (run_fnR (us := [Value.ref a]) (vs := [V.ref a]) F hr hx I1 (.cons rfl .nil) q)))
section
variable {K : PySem.W.Frag} {c : Fm} {H0 : Hp} {ta tb te : TE} {da db de : DE}
def dMethVX (bag : Option (Addr × Addr)) (C : Addr) (m : Str) (dT : DF) (do_ : DE) (da : DA) (Er : DEr) : DE := fun ρ P => do_ ρ fun x b0 => asIns C x fun fs => fs.lookup m = none ∧ da ρ fun xs b => xs.length ≤ 6 ∧ dT bag [x, .tup xs] (fun z => P z (dirt z (b0 || b))) Er
theorem sim_methVX {C : Addr} {m : Str} {dT : DF} {E : XK} {Er : DEr} {t : TA} {dts : DA} (hE : ErOk K c H0 E Er) (ho : SimE K c H0 ta da) (ha : SimA K c H0 t dts) : SimE K c H0 (tMethR C m (spV K dT) E ta t) (dMethVX c.bag C m dT da dts Er) := by
  intro ρ P h O σ H Q rp q
  refine ho ρ _ h O σ H _ rp fun v x b H1 h1 rp1 e1 rx => ?_
  obtain ⟨fs, rfl, h2, a, dx, gs, rfl, g1, g2⟩ := rb_ins rx h1
  refine ⟨a, dx, gs, rfl, g1, RF.lookup_none g2 h2.1, ?_⟩
  refine ha ρ _ h2.2 O σ H1 _ rp1 fun vs xs b' H2 h3 rp2 e2 rxs => ?_
  refine ⟨_, _, rfl, by rw [rxs.len]; exact h3.1, fun p hp => ?_⟩
  have hn := rp2.new hp
  have e3 : Ex c.S H2 (upd H2 p (.tup vs)) := Ex.new hp
  have rp3 := rp2.up e3 (c.st _ _ (Grow.new hp) rp2.inv)
  refine sp_callX (b := b || b') hE rp3 (show RBA K c O _ (b || b') [.ins C fs, .tup xs] [.ref a, .ref p] from ⟨_, _, rfl, ((rx.up e2).up e3).or, _, _, rfl, ⟨p, vs, rfl, .inl (.inl (but_of (fun z => hn (mo_of z)) upd_same)), (rxs.up e3).or'⟩, rfl⟩) rfl h3.2 fun w z H' hp' rp' ex rz => q w z _ H' hp' rp' (((e1.trans e2).trans e3).trans ex) rz.dirt
theorem sim_methVXB {bag : Option (Addr × Addr)} {C : Addr} {m : Str} {dT : DF} {E : XK} {Er : DEr} {t : TA} {dts : DA} (hb : c.bag = bag) (hE : ErOk K c H0 E Er) (ho : SimE K c H0 ta da) (ha : SimA K c H0 t dts) : SimE K c H0 (tMethR C m (spV K dT) E ta t) (dMethVX bag C m dT da dts Er) := hb ▸ sim_methVX hE ho ha
/-- an int op= an int -/
def dAugI (F : Int → Int → Int) (i : Nat) (de : DE) : DS := fun Dd ρ => dVar i ρ fun x _ => asInt x fun a => de ρ fun y _ => asInt y fun b => Dd.nx (ρ.set i (some (Ent.val (.int (F a b)))))
theorem sim_augI {F : Int → Int → Int} {i : Nat} (h : SimE K c H0 te de) : SimS K c H0 (tAug i te (ipI F)) (dAugI F i de) := by
  intro Dd ρ hd O σ H Dn G rp g R
  have hx : ∃ a, ρ[i]? = some (some (Ent.val (.int a))) ∧ de ρ fun y _ => asInt y fun b => Dd.nx (ρ.set i (some (Ent.val (.int (F a b))))) := by
    have hd : dVar i ρ fun x _ => asInt x fun a => de ρ fun y _ => asInt y fun b => Dd.nx (ρ.set i (some (Ent.val (.int (F a b))))) := hd
    unfold dVar getE at hd
    split at hd
    · rename_i d e
      cases d with
      | int a => exact ⟨a, e, hd⟩
      | _ => exact hd.elim
    · rename_i ds e
      cases ds with
      | int a =>
        obtain ⟨p, xs, h1, h2, h3, h4⟩ := rp.own i _ e
        exact h4.elim
      | _ => exact hd.elim
    · exact hd.elim
  obtain ⟨a, e, hd⟩ := hx
  obtain ⟨v, h1, h2⟩ := rp.val i _ e
  have h2 : v = .int a := h2
  subst h2
  refine ⟨_, h1, ?_⟩
  refine h ρ _ hd O σ H _ rp fun u y b H1 q1 rp1 e1 ry => ?_
  obtain ⟨k, _, rfl, q1⟩ := rb_int ry q1
  have g1 := e1.but (M := c.M ++ O) fun a z => List.mem_append_left _ (c.sub a z)
  exact ⟨_, _, rfl, rfl, R.nx _ O _ H1 q1 (rp1.setVal i rfl) (g.trans g1)⟩
end
section
variable {bag : Option (Addr × Addr)} {C : Addr} {m : Str} {dT : DF} {do_ de : DE} {da : DA} {Er : DEr} {ρ : DEnv} {P : D → Bool → Prop} {F : Int → Int → Int} {i : Nat} {Dd : DEnds}
theorem go_methVX : Go (dMethVX bag C m dT do_ da Er ρ P) = Go (do_ ρ fun x b0 => asIns C x fun fs => fs.lookup m = none ∧ da ρ fun xs b => xs.length ≤ 6 ∧ dT bag [x, .tup xs] (fun z => P z (dirt z (b0 || b))) Er) := (rfl)
theorem go_augI : Go (dAugI F i de Dd ρ) = Go (dVar i ρ fun x _ => asInt x fun a => de ρ fun y _ => asInt y fun b => Dd.nx (ρ.set i (some (Ent.val (.int (F a b)))))) := (rfl)
end
end QD

/-! QD50: three names at once, the second and the third new lists. -/
namespace QD
open PySem L2
section
variable {K : PySem.W.Frag} {c : Fm} {H0 : Hp} {ta tb tc : TE} {da : DE}
def dPar3VOO (i j l : Nat) (da : DE) (dn dm : DN) : DS := fun Dd ρ => da ρ fun x c1 => dn ρ fun ys => dm ρ fun zs => c1 = false ∧ Dd.nx (((ρ.set i (some (Ent.val x))).set j (some (Ent.own (.lst ys)))).set l (some (Ent.own (.lst zs))))
theorem sim_par3VOO {i j l : Nat} {dn dm : DN} (ha : SimE K c H0 ta da) (hb : SimN K c H0 tb dn) (hc : SimN K c H0 tc dm) (hij : i ≠ j) (hil : i ≠ l) (hjl : j ≠ l) :
    SimS K c H0 (tPar3 i j l (tCons ta (tCons tb (tCons tc tNil)))) (dPar3VOO i j l da dn dm) := by
  intro Dd ρ h O σ H Dn F rp g R
  refine ha ρ _ h O σ H _ rp fun v x b H1 h1 rp1 e1 rx => ?_
  refine hb ρ _ h1 O σ H1 _ rp1 fun p ys ds H2 h2 rp2 hno hx ra g2 _ _ => ?_
  refine hc ρ _ h2 (p :: O) σ H2 _ rp2 fun p3 zs es H3 h3 rp3 hno3 hx3 ra3 g3 e3 hp3 => ?_
  obtain ⟨z2, h3⟩ := h3
  subst z2
  have hpS : p ∉ c.S := rp2.notS List.mem_cons_self
  have hx' := e3 _ _ hx hpS
  have hne : p3 ≠ p := fun e => hp3 (e ▸ List.mem_cons_self)
  have r0 := rp3.setVal i (QD.R.grow g3 _ _ (QD.R.grow g2 _ _ rx))
  have r1 := r0.setOwn j (List.mem_cons_of_mem _ List.mem_cons_self) hx' (ds := .lst _) ⟨_, rfl, RA.grow g3 _ _ ra⟩ fun k fs _ => own_set_val hno k fs
  refine ⟨v, .ref p, .ref p3, rfl, R.nx _ (p3 :: p :: O) _ H3 h3 (r1.setOwn l List.mem_cons_self hx3 (ds := .lst _) ⟨_, rfl, ra3⟩ fun k fs hk e z => ?_) (((g.ex e1).trans g2).trans g3)⟩
  by_cases hkj : j = k
  · subst hkj
    have hl : j < ρ.length := by
      have := (List.getElem?_eq_some_iff.mp e).1
      rwa [List.length_set, List.length_set] at this
    rw [List.getElem?_set_self (by rw [List.length_set, rp.len]; exact hl)] at z
    injection z with z
    injection z with z
    injection z with z
    exact hne z.symm
  · rw [List.getElem?_set_ne hkj] at e z
    exact own_set_val hno3 k fs e z
theorem go_par3VOO {i j l : Nat} {dn dm : DN} {Dd : DEnds} {ρ : DEnv} : Go (dPar3VOO i j l da dn dm Dd ρ) = Go (da ρ fun x c1 => dn ρ fun ys => dm ρ fun zs => c1 = false ∧ Dd.nx (((ρ.set i (some (Ent.val x))).set j (some (Ent.own (.lst ys)))).set l (some (Ent.own (.lst zs))))) := (rfl)
end
def strip1 (e : Option Ent) : Option Ent := match e with | some (.val d) => some (.val d) | _ => none
theorem strip_var {e : Option Ent} {r : DEnv} : strip (e :: r) = strip1 e :: strip r := (rfl)
theorem strip1_val {d : D} : strip1 (some (Ent.val d)) = some (Ent.val d) := (rfl)
theorem strip1_own {d : D} : strip1 (some (Ent.own d)) = none := (rfl)
theorem strip1_none : strip1 none = none := (rfl)
end QD

/-! QD51: class methods; cls(..); own list + list; != of two lists of equal items, by their own ==. -/
namespace QD
section
open PySem PySem.SeqAt
open MeetsSeq
open MeetsSeq2
open MeetsSeq3
open SeqRoads2
variable {pg : Program} {wd : World} {Ar : Around}
theorem neLoop {Rs : Result → Shared → Prop} (la lb : Addr) (M : Nat) (J : Nat → Shared → Prop) (rd : GQ.ListI pg wd Ar (fun er st => Rs (.error er) st) la lb M J)
    (endF : ∀ st, J M st → Rs (.ok (.ret (.bool false))) st) : ∀ (d a : Nat), M - a = d → a ≤ M → ∀ st, J a st →
      wpAny (model pg wd) Ar.in1 (Builtin.«list.__eq__.loop» ⟨[.ref la, .ref lb, rawInt a, rawInt 3], []⟩) (GQ.FinOf pg wd Ar Rs) (fun er st' => Rs (.error er) st') st
  | 0, a, hd, ha, st, ja => by
    obtain ⟨us, vs, k1, k2, g1, g2, z1, z2, _⟩ := rd a st ja
    have full := endF st (by rw [show M = a by omega]; exact ja)
    have no1 : us[((a : Nat) : Int).toNat]? = none := Array.getElem?_eq_none (by show us.size ≤ a; omega)
    have no2 : vs[((a : Nat) : Int).toNat]? = none := Array.getElem?_eq_none (by show vs.size ≤ a; omega)
    rcases st with ⟨hp, ge, dr, tk, os⟩
    wp_walk using AutoSeq1.wpAny_loadPart' g1, AutoSeq1.wpAny_loadPart' g2
    rw [no1, no2]
    wp_walk using AutoSeq1.wpAny_loadPart' g1, AutoSeq1.wpAny_loadPart' g2
    have e0 : (us.size != vs.size) = false := by rw [z1, z2]; simp
    show Rs (.ok (.ret (.bool (us.size != vs.size)))) _
    rw [e0]
    exact full
  | d + 1, a, hd, ha, st, ja => by
    obtain ⟨us, vs, k1, k2, g1, g2, z1, z2, one⟩ := rd a st ja
    have l1 : a < us.size := by omega
    have l2 : a < vs.size := by omega
    have eqs := one l1 l2
    have at1 : us[((a : Nat) : Int).toNat]? = some us[a] := Array.getElem?_eq_getElem l1
    have at2 : vs[((a : Nat) : Int).toNat]? = some vs[a] := Array.getElem?_eq_getElem l2
    rcases st with ⟨hp, ge, dr, tk, os⟩
    wp_walk using AutoSeq1.wpAny_loadPart' g1, AutoSeq1.wpAny_loadPart' g2
    rw [at1, at2]
    refine wpAny_bind (wpAny_mono eqs (fun z st2 hz => ?_) fun _ _ y => y)
    obtain ⟨rfl, jn⟩ := hz
    have next := neLoop la lb M J rd endF d (a + 1) (by omega) (by omega) st2 jn
    have up : ((a : Int) + 1) = ((a + 1 : Nat) : Int) := Int.natCast_succ a |>.symm
    rcases st2 with ⟨hp2, ge2, dr2, tk2, os2⟩
    wp_walk
    rw [up]
    refine ⟨plainId_quiet plain_eq_loop _, codeAny_builtin entry_eq_loop ?_⟩
    simp only [Around.under_plainId plain_eq_loop]
    exact next
theorem listNe {Rs : Result → Shared → Prop} (la lb : Addr) (M : Nat) (J : Nat → Shared → Prop) (rd : GQ.ListI pg wd Ar (fun er st => Rs (.error er) st) la lb M J)
    (endF : ∀ st, J M st → Rs (.ok (.ret (.bool false))) st) {st : Shared} (j0 : J 0 st) :
    wpAny (model pg wd) Ar.in1 (Builtin.«list.__ne__» ⟨[.ref la, .ref lb], []⟩) (GQ.FinOf pg wd Ar Rs) (fun er st' => Rs (.error er) st') st := by
  obtain ⟨us, vs, k1, k2, g1, g2, z1, z2, _⟩ := rd 0 st j0
  have next := neLoop la lb M J rd endF M 0 (by omega) (by omega) st j0
  have sub3 := AutoSeq1.sub_list_list
  have same : ¬ (us.size != vs.size) = true := by rw [z1, z2]; simp
  rcases st with ⟨hp, ge, dr, tk, os⟩
  wp_walk using AutoSeq1.wpAny_loadPart' g1, AutoSeq1.wpAny_loadPart' g2
  refine ⟨plainId_quiet plain_eq_loop _, codeAny_builtin entry_eq_loop ?_⟩
  simp only [Around.under_plainId plain_eq_loop]
  exact next
theorem rcNe {la lb : Addr} {M : Nat} {Q : Value → Shared → Prop} {E : Value → Shared → Prop} {st : Shared} (hu : Ar.units < cLine) (J : Nat → Shared → Prop) (rd : GQ.ListI pg wd Ar E la lb M J) (endF : ∀ st, J M st → Q (.bool false) st) (j0 : J 0 st) :
    wpAny (model pg wd) Ar (richCompare .NotEq (.ref la) (.ref lb)) Q E st := by
  obtain ⟨us, vs, k1, k2, g1, g2, _⟩ := rd 0 st j0
  refine wpAny_richCompare_same_room (op := .NotEq) ⟨_, g1, rfl⟩ ⟨_, g2, rfl⟩ F.slot_list_ne (GQ.call_here F.slot_list_ne ⟨_, g1, rfl⟩ F.entry_list_ne (F.args_list_ne_2 _ _) ?_) hu
  exact listNe (Rs := wants (fun v st' => v ≠ .notImplemented ∧ Q v st') E) la lb M J rd (fun st' z => ⟨(fun y => nomatch y), endF st' z⟩) j0
end
open PySem L2
section
variable {X : Cx} {n : Nat} {D : L2.Eqv}
def rNeG (D : L2.Eqv) : R2 := fun x y H Q => L2.DList D x y H ∧ ∀ H', L2.Ext H H' → Q (.bl false) H'
theorem op_neG (mono : L2.Mon D) (each : L2.EqG X n D) (room : Room (n + 1) X.A) : OpR X (compareOp .NotEq) (rNeG D) := by
  intro pins s σ H x y v u Q I rx ry hq
  obtain ⟨⟨a, b, xs, ys, rfl, rfl, ha, hb, same⟩, q⟩ := hq
  cases rx
  cases ry
  have sb : L2.Sub X (n + 1) X.A := ⟨room, rfl⟩
  show wpAny (model X.prog X.w) X.A (richCompare .NotEq (.ref a) (.ref b)) (EP X pins σ Q) X.xe s
  refine rcNe (M := xs.length) room.units0 (fun _ s' => L2.LoopI X pins σ H s') (fun i s' z => ?_) (fun s' z => ?_) ⟨H, I, L2.Ext.rfl'⟩
  · obtain ⟨H1, I1, e1⟩ := id z
    obtain ⟨w1, us, k1, r1, g1⟩ := I1.hok a _ (e1 _ _ ha)
    obtain ⟨w2, vs, k2, r2, g2⟩ := I1.hok b _ (e1 _ _ hb)
    have l1 : us.toArray.size = xs.length := by rw [List.size_toArray]; exact r1.length.symm
    have l2 : vs.toArray.size = xs.length := by rw [List.size_toArray, same.1]; exact r2.length.symm
    exact ⟨_, _, k1, k2, g1, g2, l1, l2, fun h1 h2 => L2.turnG mono each sb same r1 r2 i h1 h2 s' z⟩
  · obtain ⟨H1, I1, e1⟩ := z
    exact ⟨.bl false, H1, I1, rfl, q H1 e1⟩
end
section
variable {K : PySem.W.Frag} {C : Addr} {dT : DF}
/-- two instances that the own == finds equal -/
def sameI (K : PySem.W.Frag) (C : Addr) (dT : DF) (a b : Addr) (H : Hp) : Prop := ∃ fs gs, R K H (.ins C fs) (.ref a) ∧ R K H (.ins C gs) (.ref b) ∧ dT none [.ins C fs, .ins C gs] (fun d => d = .bl true) fun _ _ => False
theorem sameI_spD {vs : List V} {H : Hp} {Q : VK} {E : XK} (h : L2.spEq (sameI K C dT) vs H Q E) : spD K 2 dT vs H Q E := by
  obtain ⟨a, b, rfl, ⟨fs, gs, r1, r2, hd⟩, q⟩ := h
  refine ⟨Fm.pure, [.ins C fs, .ins C gs], fun d => d = .bl true, fun _ _ => False, rfl, True.intro, ?_, hd, fun v d H' hp _ ex r => ?_, fun _ _ _ _ _ hf => hf.elim⟩
  · show RA K (but H []) _ _
    rw [but_nil]
    exact ⟨_, _, rfl, r1, _, _, rfl, r2, rfl⟩
  · subst hp
    rw [show v = .bl true from r]
    exact q H' fun x o e => ex x o e (by simp [Fm.pure])
/-- l != m, lists of equal instances -/
theorem q_neOwnL {X : Cx} {CX : CXT} {k : Nat} {f : Addr} {fd : FuncData} {ps : List Str} {E : XK} (F : FnOk X.prog X.w X.K X.mg X.base CX k f fd ps (spD X.K 2 dT)) (hr : Room (k + 1) X.A) (o : EqC X.K C f) (hb : Binds X.K fd ps []) (hx : Passes CX X E) :
    OpR X (compareOp .NotEq) (rNeG (L2.DIns C (sameI X.K C dT))) :=
  op_neG (L2.mon_ins fun a b H H' e h => by
    obtain ⟨fs, gs, r1, r2, hd⟩ := h
    exact ⟨fs, gs, R.grow e _ _ r1, R.grow e _ _ r2, hd⟩) (L2.eqG_ins (F.imp fun _ _ _ _ => sameI_spD) o.at_ o.fn hb hx) hr
def pairEq (C : Addr) (dT : DF) (a b : D) : Prop := ∃ fs gs, a = .ins C fs ∧ b = .ins C gs ∧ dT none [.ins C fs, .ins C gs] (fun d => d = .bl true) fun _ _ => False
def pairsEq (C : Addr) (dT : DF) : List D → List D → Prop
  | [], [] => True
  | a :: r, b :: t => pairEq C dT a b ∧ pairsEq C dT r t
  | _, _ => False
theorem prs_of {H : Hp} : ∀ {xs ys : List D} {vs us : List V}, pairsEq C dT xs ys → RA K H xs vs → RA K H ys us → L2.Prs (L2.DIns C (sameI K C dT)) vs us H
  | [], [], _, _, _, h1, h2 => by
    rw [show _ = [] from h1, show _ = [] from h2]
    exact L2.Prs.nil
  | a :: r, b :: t, _, _, h, h1, h2 => by
    obtain ⟨v, vs, rfl, r1, r2⟩ := h1
    obtain ⟨u, us, rfl, r3, r4⟩ := h2
    obtain ⟨⟨fs, gs, rfl, rfl, hd⟩, h⟩ := h
    refine L2.Prs.cons ?_ (prs_of h r2 r4)
    obtain ⟨p, dx, l1, rfl, g1, g2⟩ := id r1
    obtain ⟨p', dx', l2, rfl, g3, g4⟩ := id r3
    exact ⟨p, p', dx, dx', l1, l2, rfl, rfl, g1, g3, fs, gs, r1, r3, hd⟩
  | [], _ :: _, _, _, h, _, _ => h.elim
  | _ :: _, [], _, _, h, _, _ => h.elim
def dNeOwnL (C : Addr) (dT : DF) : DR
  | .lst xs, .lst ys, P => pairsEq C dT xs ys ∧ P (.bl false)
  | _, _, _ => False
theorem sr_neOwnL {c : Fm} {H0 : Hp} : SimR K c H0 (rNeG (L2.DIns C (sameI K C dT))) (dNeOwnL C dT) := by
  intro x y P h O H Q v u b σ ρ rp rx ry q
  unfold dNeOwnL at h
  split at h
  · obtain ⟨p, xs, rfl, g1, g2⟩ := rx.here
    obtain ⟨p', ys, rfl, g3, g4⟩ := ry.here
    exact ⟨⟨p, p', xs, ys, rfl, rfl, g1, g3, prs_of h.1 g2 g4⟩, fun H' e => q _ _ H' h.2 (Ex.of e) (c.st _ _ e rp.inv) rfl⟩
  · exact h.elim
theorem go_neOwnL {xs ys : List D} {P : D → Prop} : Go (dNeOwnL C dT (.lst xs) (.lst ys) P) = (pairsEq C dT xs ys ∧ Go (P (.bl false))) := (rfl)
end
end QD

/-! QD52: C.m(..), m a class method; cls(..) in it; an own list + a list. -/
namespace QD
open PySem L2
section
variable {X : Cx} {CX : CXT} {k n : Nat} {C p g f : Addr} {mc : Value} {fd : FuncData} {ps ks : List Str} {sp : Sp} {dvs : List V} {ds : List Value} {E : XK} {o e : Expr} {es : List Expr} {kws : List Keyword} {m x : Str} {pos apos np : Pos} {ta : TE} {t tk : TA} {pl : Sem Bool}
/-- C.m(k=e, ..) -/
theorem pe_cmethN {gk : List Value → List Value → List Value} {gV : List V → List V → List V} (he : PE X o ta) (r : ClX.CRead X.K C mc) (c : ClX.CMet X.K C mc m p g) (F : FnOk X.prog X.w X.K X.mg X.base CX k g fd ps sp) (hr : Room k X.A) (hb : KBn X.K fd ps 1 ks gk gV) (hx : Passes CX X E) (hkw : PK X kws tk)
    (hall : (backToKw pos (keywordEach kws X.env)).all (·.1.isSome) = true := by rfl) (hks : (backToKw pos (keywordEach kws X.env)).filterMap (·.1) = ks := by rfl)
    (hpl : ((backTo pos (starEach [] X.env)).any (·.1) || (backToKw pos (keywordEach kws X.env)).any (·.1.isNone)) = false := by rfl)
    (ht : eval (.Call (.Attribute o m apos) [] kws pos) X.env = (do
      let ov ← eval o X.env
      standAt apos.atName
      let (f, first) ← holding [ov] (getMethod ov m pl)
      callWith pos f first (backTo pos (starEach [] X.env)) (backToKw pos (keywordEach kws X.env))) := by rfl) :
    PE X (.Call (.Attribute o m apos) [] kws pos) (fun σ H Q => ta σ H fun x H1 => x = .ref C ∧ tk σ H1 fun zs H2 => zs.length = ks.length ∧ sp (gV [.ref C] zs) H2 Q E) := by
  refine ⟨fun pins s σ H Q I h => PySem.W.methodCall_KW (pl := pl) (thn (he.run pins s σ H _ I h) fun u s1 ⟨x, H1, I1, rx, ex, q⟩ => ?_) ht⟩
  subst ex
  obtain rfl : u = Value.ref C := rx
  refine ClX.getmethcm_ok I1 r c fun s2 I2 => ?_
  refine PySem.W.callWith_of (P := PySem.W.MethP X.K s1.heap.objs.size g (.ref C)) hpl (PySem.W.keeps_M c.fi) (PyProof.Rows.evalArgs_kw2_nil hall (thn (hkw.run pos _ s2 σ H1 _ I2 q) fun ws s3 ⟨zs, H2, I3, rz, l2, q2⟩ => ⟨⟨ClX.pin_at I3, I3.kIn⟩, ?_⟩))
  rw [hks]
  have r2 := hb.rel (.cons rfl .nil : Vals [V.ref C] [Value.ref C]) rz
  have z : wpAny (model X.prog X.w) X.A (call (.ref s1.heap.objs.size) [] (ks.zip ws)) (EP X ((s1.heap.objs.size, PySem.W.methodObj (.ref g) (.ref C)) :: pins) σ Q) X.xe s3 := by
    refine wpAny_call (PySem.W.method_call (ClX.pin_at I3) (codeAny_mono (F.run X.A X.stack s3 H2 ⟨[.ref C], ks.zip ws⟩ (gk [.ref C] ws) (gV [.ref C] zs) Q E hr I3.env0 (hb.to s3 [.ref C] ws I3.kIn rfl (rz.length.symm.trans l2)) r2 q2) fun r s' hq => ?_))
    cases r with
    | error e => exact hx _ σ H2 s3 e s' I3 hq
    | ok fl =>
      cases fl with
      | ret u => exact I3.after hq
      | next => exact hq.elim
      | brk => exact hq.elim
      | cont => exact hq.elim
  exact thn z fun _ _ y => ClX.unpinE y
/-- v(e, ..), the class at C in the i-th slot -/
theorem pe_makeV {i : Nat} (M : Mk X.K C f) (F : FnOk X.prog X.w X.K X.mg X.base CX k f fd ps sp) (hr : Room (k + 1) X.A) (hv : PE X (.Name x np) (tVar i)) (hb : Binds X.K fd ps ds) (hd : Vals dvs ds) (hx : Passes CX X E) (ha : PA X (e :: es) t)
    (he : starEach (e :: es) X.env = (false, eval e X.env) :: starEach es X.env := by rfl) (hpl : (backTo pos (starEach es X.env)).any (·.1) = false := by rfl) :
    PE X (.Call (.Name x np) (e :: es) [] pos) (fun σ H Q => tVar i σ H fun v H1 => v = .ref C ∧ tMake C sp dvs E t σ H1 Q) := by
  refine ⟨fun pins s σ H Q I h => wpAny_Call_Name_kw (thn (hv.run pins s σ H _ I h) fun u s1 ⟨v, H1, I1, rv, ev, q⟩ => ?_)⟩
  subst ev
  obtain rfl : u = Value.ref C := rv
  refine PySem.W.callWith_K (h₀ := X.base) I.ok.mod.kin M.kp (thn (ha.run pos pins s1 σ H1 _ I1 q) fun us s2 ⟨vs, H2, I2, r, q2⟩ => ⟨I2.kIn, ?_⟩) he hpl
  exact run_make M F hr hb hd hx I2 r q2
end
section
variable {K : PySem.W.Frag} {c : Fm} {H0 : Hp} {ta tb : TE} {da db : DE} {C : Addr}
def dCMethX (bag : Option (Addr × Addr)) (C : Addr) (n : Nat) (dT : DF) (do_ : DE) (da : DA) (Er : DEr) : DE := fun ρ P => do_ ρ fun x _ => isRaw C x ∧ da ρ fun xs b => (D.raw (.ref C) :: xs).length = n ∧ dT bag (.raw (.ref C) :: xs) (fun z => P z (dirt z b)) Er
theorem sim_cmethX {n : Nat} {dT : DF} {E : XK} {Er : DEr} {t : TA} {dts : DA} (hE : ErOk K c H0 E Er) (ho : SimE K c H0 ta da) (ha : SimA K c H0 t dts) : SimE K c H0 (ClX.tCMeth C (fun vs H Q E => spD K n dT (vs ++ []) H Q E) E ta t) (dCMethX c.bag C n dT da dts Er) := by
  intro ρ P h O σ H Q rp q
  refine ho ρ _ h O σ H _ rp fun v x b H1 h1 rp1 e1 rx => ?_
  refine ⟨isRaw_of h1.1 rx.here, ?_⟩
  refine ha ρ _ h1.2 O σ H1 _ rp1 fun vs xs b' H2 h3 rp2 e2 rxs => ?_
  show spD K n dT ((V.ref C :: vs) ++ []) H2 Q E
  rw [List.append_nil]
  exact sp_callX (b := b') hE rp2 (show RBA K c O H2 b' (.raw (.ref C) :: xs) (.ref C :: vs) from ⟨_, _, rfl, rfl, rxs⟩) h3.1 h3.2 fun w z H' hp rp' ex rz => q w z _ H' hp rp' ((e1.trans e2).trans ex) rz.dirt
def dCMethNX (bag : Option (Addr × Addr)) (C : Addr) (n m : Nat) (dT : DF) (gD : List D → List D) (do_ : DE) (dk : DA) (Er : DEr) : DE := fun ρ P => do_ ρ fun x _ => isRaw C x ∧ dk ρ fun ys b => ys.length = m ∧ (gD ys).length = n ∧ dT bag (gD ys) (fun z => P z (dirt z b)) Er
theorem sim_cmethNX {n m : Nat} {dT : DF} {gV : List V → List V → List V} {gD : List D → List D} {E : XK} {Er : DEr} {tk : TA} {dk : DA} (hE : ErOk K c H0 E Er) (hg : ∀ {H : Hp} {ys : List D} {zs : List V}, ys.length = m → RA K H ys zs → RA K H (gD ys) (gV [.ref C] zs)) (ho : SimE K c H0 ta da) (hk : SimA K c H0 tk dk) :
    SimE K c H0 (fun σ H Q => ta σ H fun x H1 => x = .ref C ∧ tk σ H1 fun zs H2 => zs.length = m ∧ spD K n dT (gV [.ref C] zs) H2 Q E) (dCMethNX c.bag C n m dT gD da dk Er) := by
  intro ρ P h O σ H Q rp q
  refine ho ρ _ h O σ H _ rp fun v x b H1 h1 rp1 e1 rx => ?_
  refine ⟨isRaw_of h1.1 rx.here, ?_⟩
  refine hk ρ _ h1.2 O σ H1 _ rp1 fun zs ys b' H2 h3 rp2 e2 ry => ?_
  refine ⟨by rw [ry.len]; exact h3.1, ?_⟩
  exact sp_callX (b := b') hE rp2 (show RBA K c O H2 b' (gD ys) (gV [.ref C] zs) from hg h3.1 ry) h3.2.1 h3.2.2 fun w z H' hp rp' ex rz => q w z _ H' hp rp' ((e1.trans e2).trans ex) rz.dirt
theorem sim_cmethXB {bag : Option (Addr × Addr)} {n : Nat} {dT : DF} {E : XK} {Er : DEr} {t : TA} {dts : DA} (hb : c.bag = bag) (hE : ErOk K c H0 E Er) (ho : SimE K c H0 ta da) (ha : SimA K c H0 t dts) : SimE K c H0 (ClX.tCMeth C (fun vs H Q E => spD K n dT (vs ++ []) H Q E) E ta t) (dCMethX bag C n dT da dts Er) := hb ▸ sim_cmethX hE ho ha
def dMakeVX (bag : Option (Addr × Addr)) (C : Addr) (n : Nat) (dT : DI0) (dd : List D) (i : Nat) (da : DA) (Er : DEr) : DE := fun ρ P => dVar i ρ fun x _ => isRaw C x ∧ dMakeX bag C n dT dd da Er ρ P
theorem sim_makeVX {n i : Nat} {dT : DI0} {dvs : List V} {dd : List D} {E : XK} {Er : DEr} {t : TA} {da : DA} (hE : ErOk K c H0 E Er) (hd : ∀ H, RA K H dd dvs) (ha : SimA K c H0 t da) :
    SimE K c H0 (fun σ H Q => tVar i σ H fun v H1 => v = .ref C ∧ tMake C (spI K C n dT) dvs E t σ H1 Q) (dMakeVX c.bag C n dT dd i da Er) := by
  intro ρ P h O σ H Q rp q
  refine sim_var (K := K) (c := c) (H0 := H0) ρ _ h O σ H _ rp fun v x b H1 h1 rp1 e1 rx => ?_
  refine ⟨isRaw_of h1.1 rx.here, ?_⟩
  exact sim_makeX hE hd ha ρ P h1.2 O σ H1 Q rp1 fun w d b' H' hp rp' ex rz => q w d b' H' hp rp' (e1.trans ex) rz
def D.isLst : D → Option (List D)
  | .lst ys => some ys
  | _ => none
/-- an own list and a list behind it, in a new list -/
def dnAddO (i : Nat) (db : DE) : DN := fun ρ P => dEntOwn ρ i fun xs => db ρ fun y b => b = false ∧ optP y.isLst fun ys => xs.length + ys.length ≤ sizeLine ∧ P (xs ++ ys)
theorem sn_addO {i : Nat} (hb : SimE K c H0 tb db) : SimN K c H0 (tOp gAdd (tVar i) tb) (dnAddO i db) := by
  intro ρ P h O σ H Q rp q
  obtain ⟨ds, e0, h⟩ := entOwn h
  obtain ⟨p, _, hv, _, _, _⟩ := rp.own i _ e0
  refine ⟨.ref p, hv, ?_⟩
  refine hb ρ _ h O σ H _ rp fun u y b H1 h1 rp1 e1 ry => ?_
  obtain ⟨hb0, h1⟩ := h1
  subst hb0
  obtain ⟨ys, ey, h1⟩ := optP_some h1
  obtain ⟨p2, _, hv2, hp2, hx2, xs, rfl, ra⟩ := rp1.own i _ e0
  have : p2 = p := by
    have := hv2.symm.trans hv
    injection this with this
    injection this with this
    injection this
  subst this
  have g0 := e1.but (M := c.M ++ O) fun a z => List.mem_append_left _ (c.sub a z)
  cases y with
  | lst zs =>
    cases ey
    obtain ⟨a, us, rfl, g1, g2⟩ := id ry
    exact .inr (.inr ⟨p2, a, xs, us, rfl, rfl, hx2, (but_some g1).2, by rw [ra.length, g2.length]; exact h1.1, fun l hl => q l _ _ _ h1.2 (rp1.more hl) (rp1.own_ne hl) upd_same (RA.grow (grow_new hl) _ _ (ra.app g2)) (g0.trans (grow_new hl)) (e1.trans (Ex.new hl)) (fun z => rp1.new hl (List.mem_append_right _ z))⟩)
  | _ => cases ey
end
section
variable {bag : Option (Addr × Addr)} {C : Addr} {n m i : Nat} {dT : DF} {dI : DI0} {dd : List D} {a db : DE} {da dk : DA} {Er : DEr} {ρ : DEnv} {P : D → Bool → Prop} {gD : List D → List D} {PI : List D → Prop} {xs : List D}
theorem go_cmethX : Go (dCMethX bag C n dT a da Er ρ P) = Go (a ρ fun x _ => isRaw C x ∧ da ρ fun xs b => (D.raw (.ref C) :: xs).length = n ∧ dT bag (.raw (.ref C) :: xs) (fun z => P z (dirt z b)) Er) := (rfl)
theorem go_cmethNX : Go (dCMethNX bag C n m dT gD a dk Er ρ P) = Go (a ρ fun x _ => isRaw C x ∧ dk ρ fun ys b => ys.length = m ∧ (gD ys).length = n ∧ dT bag (gD ys) (fun z => P z (dirt z b)) Er) := (rfl)
theorem go_makeVX : Go (dMakeVX bag C n dI dd i da Er ρ P) = Go (dVar i ρ fun x _ => isRaw C x ∧ dMakeX bag C n dI dd da Er ρ P) := (rfl)
theorem go_addO : Go (dnAddO i db ρ PI) = Go (dEntOwn ρ i fun xs => db ρ fun y b => b = false ∧ optP y.isLst fun ys => xs.length + ys.length ≤ sizeLine ∧ PI (xs ++ ys)) := (rfl)
theorem isLst_lst : D.isLst (.lst xs) = some xs := (rfl)
end
end QD

/-! QD53: an __init__ without defaults that may raise. -/
namespace QD
open PySem L2
theorem okIX0 {P : Program} {w : World} {K : PySem.W.Frag} {mg : Str → Option Value} {base : Heap} {x qual : Str} {st : Stmt} {f : Addr} {fd : FuncData} {N ps : List Str} {k n : Nat} {C : Addr} {dT : DI0}
    (F : Fun K x qual st f fd) (S : FnScope N ps (defScope st)) (hn : ps.length = n + 1) (hN : 0 < N.length)
    (hbody : ∀ (cdv : Value) (A : Around) (outer : List Env) (s : Shared) (H H1 : Hp) (E : XK) (c : Fm), Room k (A.deeper (PyProof.Rows.envOfC qual (defScope st) s.heap.objs.size f cdv)) →
      ∃ (ts : TS) (dsb : DEr → DS), PSs (cxOf (CXR P w) P w K mg base N qual (defScope st) f cdv A outer s H E) (defBody st) ts ∧ (∀ Er, ErOk K c H1 E Er → SimS K c H1 ts (dsb Er)) ∧ ∀ ds Pd Er, ds.length = n → dT c.bag ds Pd Er → dsb Er { nx := fun ρ => objE C ρ[0]? Pd, rt := fun _ => False } (some (Ent.own (.ins C [])) :: dstart (N.length - 1) ds)) :
    FnOk P w K mg base (CXR P w) (k + 1) f fd ps (spI K C n dT) := by
  obtain ⟨oc, od, kV, doc, pm, an, cdv0, ct, osl, rfl, lk, hcd⟩ := F.ex
  refine fn_of lk hcd S (fun vs H Q E h => ?_) fun A outer s H vs Q E hr h => ?_
  · obtain ⟨x, dx, ws, H1, c, ds, Pd, Er, rfl, rfl, hx, hdx, hne, hl, i, ra, hd, q, qe⟩ := h
    rw [List.length_cons, ra.length, hl, hn]
  · obtain ⟨x, dx, ws, H1, c, ds, Pd, Er, rfl, rfl, hx, hdx, hne, hl, i, ra, hd, q, qe⟩ := h
    obtain ⟨ts, dsb, hp, hs, hb⟩ := hbody cdv0 A outer s _ H1 E (c.at x) hr
    refine ⟨ts, hp, ?_⟩
    have rp := rep_startI (K := K) (C := C) i ra hx hdx hne hN
    refine hs Er (fun C' d gs fs H' hf i' ex hx' rf => qe C' d gs fs H' hf i' ex hx' rf) _ _ (hb ds Pd Er hl hd) [x] _ _ _ (but (upd (upd H1 dx (.own x)) x (.ins C dx [])) (c.M ++ [x])) rp (Grow.refl _) ⟨fun ρ O σ H' h rp' _ => ?_, fun v d H' h => h.elim, fun ρ O σ H' h => h.elim, fun ρ O σ H' h => h.elim⟩
    obtain ⟨fs, e0, h2⟩ := entObj (i := 0) h
    obtain ⟨p, o, hv, hp', hx', ow⟩ := rp'.own 0 _ e0
    have hp0 : p = x := by
      have := (rp'.me x C fs rfl e0).symm.trans hv
      injection this with this
      injection this with this
      injection this with this
      exact this.symm
    subst hp0
    exact q fs H' h2 rp'.inv rp'.ent (OwnR.R (but_of (rp'.notM hp') hx') (ow.grow (but_le fun a z => List.mem_append_left _ z)))
end QD

/-! QD54: defs that hand back a new list; what a call made is changed; a pair that leans on an own list. -/
namespace QD
open PySem L2
/-- a promise: what is handed back is a list that was not there -/
def spN (K : PySem.W.Frag) (n : Nat) (dT : DF) : Sp := fun vs H Q E => ∃ (c : Fm) (ds : List D) (P : D → Prop) (Er : DEr), ds.length = n ∧ c.I H ∧ RA K (but H c.M) ds vs ∧ dT c.bag ds P Er ∧
  (∀ p xs es H', P (.lst es) → c.I H' → Ex c.S H H' → H p = none → H' p = some (.lst xs) → RA K (but H' (c.M ++ [p])) es xs → Q (.ref p) H') ∧
  (∀ C d gs fs H', Er C fs → c.I H' → Ex c.S H H' → H' d = some (.xd gs) → RF K (but H' c.M) fs gs → E (.ref C) (some d) H')
theorem spN_of {K : PySem.W.Frag} {n : Nat} {dT : DF} {vs : List V} {H : Hp} {Q : VK} {E : XK} (h : spD K n dT vs H Q E) : spN K n dT vs H Q E := by
  obtain ⟨c, ds, P, Er, hl, i, ra, hd, q, qe⟩ := h
  exact ⟨c, ds, P, Er, hl, i, ra, hd, fun p xs es H' hp i' ex hn hx rx => q (.ref p) (.lst es) H' hp i' ex ⟨p, xs, rfl, but_of (fun z => c.liv H i p z hn) hx, RA.grow (but_le fun a z => List.mem_append_left _ z) _ _ rx⟩, qe⟩
section
variable {K : PySem.W.Frag} {c : Fm} {H0 : Hp} {ta tb te : TE} {ts us : TS} {ds : DS}
abbrev DSN := (List D → Prop) → DEnv → Prop
/-- statements at whose end a new list is handed back -/
def SimSN (K : PySem.W.Frag) (c : Fm) (H0 : Hp) (ts : TS) (dn : DSN) : Prop := ∀ P ρ, dn P ρ → ∀ O σ H Dn F, Rep K c H0 O H σ ρ → Grow F (but H (c.M ++ O)) →
  (∀ p xs es H', P es → c.I H' → Ex c.S H0 H' → H0 p = none → H' p = some (.lst xs) → RA K (but H' (c.M ++ [p])) es xs → Dn.rt (.ref p) H') → ts Dn σ H
def dSeqN (A : DS) (B : DSN) : DSN := fun P ρ => A { nx := fun ρ' => B P ρ', rt := fun _ => False } ρ
theorem sn_seqN {dn : DSN} (ha : SimS K c H0 ts ds) (hb : SimSN K c H0 us dn) : SimSN K c H0 (tSeq ts us) (dSeqN ds dn) := by
  intro P ρ h O σ H Dn F rp g q
  exact ha _ ρ h O σ H _ F rp g ⟨fun ρ' O' σ' H' h' rp' g' => hb P ρ' h' O' σ' H' Dn F rp' g' q, fun v d H' h' => h'.elim, fun _ _ _ _ h' => h'.elim, fun _ _ _ _ h' => h'.elim⟩
def dRetO (i : Nat) : DSN := fun P ρ => dEntOwn ρ i P
theorem sn_retO {i : Nat} : SimSN K c H0 (tRet (tVar i)) (dRetO i) := by
  intro P ρ h O σ H Dn F rp g q
  obtain ⟨ds, e0, h⟩ := entOwn h
  obtain ⟨p, _, hv, hp, hx, xs, rfl, ra⟩ := rp.own i _ e0
  refine ⟨.ref p, hv, q p xs ds H h rp.inv rp.ent (rp.fresh p hp) hx (RA.grow (but_le fun a z => ?_) _ _ ra)⟩
  rcases List.mem_append.mp z with z | z
  · exact List.mem_append_left _ z
  · rw [List.mem_singleton.mp z]
    exact List.mem_append_right _ hp
def dRetE (dn : DN) : DSN := fun P ρ => dn ρ P
theorem sn_retE {dn : DN} (h : SimN K c H0 te dn) : SimSN K c H0 (tRet te) (dRetE dn) := by
  intro P ρ hd O σ H Dn F rp g q
  refine h ρ _ hd O σ H _ rp fun p xs ds H' hp rp' hno hx ra g' e' hpO => ?_
  refine q p xs ds H' hp rp'.inv rp'.ent (rp'.fresh p List.mem_cons_self) hx (RA.grow (but_le fun a z => ?_) _ _ ra)
  rcases List.mem_append.mp z with z | z
  · exact List.mem_append_left _ z
  · rw [List.mem_singleton.mp z]
    exact List.mem_append_right _ List.mem_cons_self
/-- a new object that a call left -/
theorem Rep.newN {O : List Addr} {H H' : Hp} {σ : L2.St} {ρ : DEnv} {p : Addr} {o : HO} (r : Rep K c H0 O H σ ρ) (e : Ex c.S H H') (i : c.I H') (h : H p = none) (hx : H' p = some o) (ho : mutO o = true) :
    Rep K c H0 (p :: O) H' σ ρ ∧ Grow (but H (c.M ++ O)) (but H' (c.M ++ p :: O)) := by
  have r' := r.up e i
  have g : Grow (but H (c.M ++ O)) (but H' (c.M ++ p :: O)) := fun a u z => by
    obtain ⟨n, z⟩ := but_some z
    have hne : a ≠ p := ne_of_none z h
    refine but_of (fun y => ?_) (e a u z fun y => n (List.mem_append_left _ (c.sub a y)))
    rcases List.mem_append.mp y with y | y
    · exact n (List.mem_append_left _ y)
    · rcases List.mem_cons.mp y with y | y
      · exact hne y
      · exact n (List.mem_append_right _ y)
  refine ⟨⟨r'.inv0, r'.inv, r'.ent, fun a ha => ?_, fun a ha => ?_, r'.len, fun k d q => ?_, fun k ds q => ?_, r'.sep, r'.me⟩, g⟩
  · rcases List.mem_cons.mp ha with z | ha
    · rw [z]; exact r.new0 h
    · exact r'.fresh a ha
  · rcases List.mem_cons.mp ha with z | ha
    · rw [z]; exact ⟨o, hx, ho⟩
    · exact r'.liv a ha
  · obtain ⟨v, h1, h2⟩ := r.val k d q
    exact ⟨v, h1, R.grow g d v h2⟩
  · obtain ⟨q', xs, h1, h2, h3, h4⟩ := r.own k ds q
    exact ⟨q', xs, h1, List.mem_cons_of_mem _ h2, e _ _ h3 (r.notS h2), h4.grow g⟩
def dnCallX (bag : Option (Addr × Addr)) (n : Nat) (dT : DF) (dd : List D) (da : DA) (Er : DEr) : DN := fun ρ PI => da ρ fun xs b => b = false ∧ (xs ++ dd).length = n ∧ dT bag (xs ++ dd) (fun z => optP z.isLst PI) Er
theorem sn_callX {n : Nat} {dT : DF} {dvs : List V} {dd : List D} {E : XK} {Er : DEr} {t : TA} {da : DA} (hE : ErOk K c H0 E Er) (hd : ∀ H, RA K H dd dvs) (ha : SimA K c H0 t da) : SimN K c H0 (tCall (spN K n dT) dvs E t) (dnCallX c.bag n dT dd da Er) := by
  intro ρ P h O σ H Q rp q
  refine ha ρ _ h O σ H _ rp fun vs xs b H1 h1 rp1 e1 rx => ?_
  obtain ⟨hb, h1⟩ := h1
  subst hb
  have g1 := e1.but (M := c.M ++ O) fun a z => List.mem_append_left _ (c.sub a z)
  refine ⟨rp1.fm, xs ++ dd, _, Er, h1.1, ⟨rp1.inv, rp1.liv⟩, RA.app rx (hd _), h1.2, fun p ys es H' hp i ex hn hx rx' => ?_, fun C d gs fs H' hf i ex hx rf => ?_⟩
  · obtain ⟨r2, g2⟩ := rp1.newN ex i.1 hn hx rfl
    refine q p ys es H' hp r2 (rp1.own_ne hn) hx (RA.grow (but_le fun a z => ?_) _ _ rx') (g1.trans g2) (e1.trans ex) fun z => rp1.new hn (List.mem_append_right _ z)
    rcases List.mem_append.mp z with z | z
    · exact List.mem_append_left _ (List.mem_append_left _ z)
    · rcases List.mem_cons.mp z with z | z
      · exact List.mem_append_right _ (List.mem_singleton.mpr z)
      · exact List.mem_append_left _ (List.mem_append_right _ z)
  · exact hE C d gs fs H' hf i.1 (rp1.ent.trans ex) hx (RF.grow1 (but_le fun a z => List.mem_append_left _ z) rf)
/-- f(..).append(e) -/
def dAppN (dn : DN) (de : DE) : DS := fun Dd ρ => dn ρ fun ds => de ρ fun _ _ => ds.length < sizeLine ∧ Dd.nx ρ
theorem sim_appN {dn : DN} {de : DE} (hn : SimN K c H0 te dn) (hb : SimE K c H0 tb de) : SimS K c H0 (tDrop (tBM K "list" rAppend te (tCons tb tNil))) (dAppN dn de) := by
  intro Dd ρ hd O σ H Dn F rp g R
  refine hn ρ _ hd O σ H _ rp fun p xs ds H1 h1 rp1 hno hx ra g1 e1 hpO => ?_
  refine ⟨tyV_lst hx, ?_⟩
  refine hb ρ _ h1 (p :: O) σ H1 _ rp1 fun v d b H2 h2 rp2 e2 rv => ?_
  have hx2 : H2 p = some (.lst xs) := e2 _ _ hx (rp1.notS List.mem_cons_self)
  have g2 := e2.but (M := c.M ++ p :: O) fun a z => List.mem_append_left _ (c.sub a z)
  have g3 : Grow (but H2 (c.M ++ p :: O)) (but (upd H2 p (.lst (xs ++ [v]))) (c.M ++ p :: O)) := fun a u z => by
    obtain ⟨n, z⟩ := but_some z
    have hne : a ≠ p := fun y => n (List.mem_append_right _ (y ▸ List.mem_cons_self))
    exact but_of n (by rw [upd_ne hne]; exact z)
  exact ⟨p, xs, v, rfl, rfl, hx2, by rw [ra.length]; exact h2.1, R.nx _ (p :: O) σ _ h2.2 (rp2.store List.mem_cons_self _ hno) (((g.trans g1).trans g2).trans g3)⟩
/-- s.split(e): a new list -/
def dnSplit (a b : DE) : DN := fun ρ PI => a ρ fun x _ => asStr x fun s => b ρ fun y _ => asStr y fun s' => ((s'.length == 0) = false ∧ s.length + 2 ≤ sizeLine) ∧ PI ((Txt.split s s').map D.str)
theorem sn_split {da db : DE} (ha : SimE K c H0 ta da) (hb : SimE K c H0 tb db) : SimN K c H0 (tM1 rSplit ta tb) (dnSplit da db) := by
  intro ρ P h O σ H Q rp q
  refine ha ρ _ h O σ H _ rp fun v x b H1 h1 rp1 e1 rx => ?_
  obtain ⟨a, ea, h2⟩ := rb_str rx h1
  refine ⟨⟨a, ea⟩, ?_⟩
  refine hb ρ _ h2 O σ H1 _ rp1 fun u y b' H2 h3 rp2 e2 ry => ?_
  obtain ⟨s, es, h4⟩ := rb_str ry h3
  have g := (e1.trans e2).but (M := c.M ++ O) fun a z => List.mem_append_left _ (c.sub a z)
  exact ⟨a, s, ea, by rw [es], h4.1.1, h4.1.2, fun p hp => q p _ _ _ h4.2 (rp2.more hp) (rp2.own_ne hp) upd_same (RA.strs' _) (g.trans (grow_new hp)) ((e1.trans e2).trans (Ex.new hp)) fun z => rp2.new hp (List.mem_append_right _ z)⟩
end
section
variable {P : Program} {w : World} {K : PySem.W.Frag} {mg : Str → Option Value} {base : Heap}
theorem okNX {x qual : Str} {st : Stmt} {f : Addr} {fd : FuncData} {N ps : List Str} {k n : Nat} {dT : DF} (F : Fun K x qual st f fd) (S : FnScope N ps (defScope st)) (hn : ps.length = n)
    (hbody : ∀ (cdv : Value) (A : Around) (outer : List Env) (s : Shared) (H : Hp) (E : XK) (c : Fm), Room k (A.deeper (PyProof.Rows.envOfC qual (defScope st) s.heap.objs.size f cdv)) →
      ∃ (ts : TS) (dn : DEr → DSN), PSs (cxOf (CXR P w) P w K mg base N qual (defScope st) f cdv A outer s H E) (defBody st) ts ∧ (∀ Er, ErOk K c H E Er → SimSN K c H ts (dn Er)) ∧ ∀ ds Pd Er, ds.length = n → dT c.bag ds Pd Er → dn Er (fun es => Pd (.lst es)) (dstart N.length ds)) :
    FnOk P w K mg base (CXR P w) (k + 1) f fd ps (spN K n dT) := by
  obtain ⟨oc, od, kV, doc, pm, an, cdv, ct, osl, rfl, lk, hcd⟩ := F.ex
  refine fn_of lk hcd S (fun vs H Q E h => ?_) fun A outer s H vs Q E hr h => ?_
  · obtain ⟨c, ds, _, _, hl, _, ra, _⟩ := h
    rw [ra.length, hl, hn]
  · obtain ⟨c, ds, Pd, Er, hl, i, ra, hd, q, qe⟩ := h
    obtain ⟨ts, dn, hp, hs, hb⟩ := hbody cdv A outer s H E c hr
    refine ⟨ts, hp, ?_⟩
    exact hs Er (fun C d gs fs H' hf i' ex hx rf => qe C d gs fs H' hf i' ex hx rf) _ _ (hb ds Pd Er hl hd) [] _ H _ (but H c.M) (rep_start i ra) (by rw [List.append_nil]; exact Grow.refl _) fun p xs es H' hp i' ex hn hx rx => q p xs es H' hp i' ex hn hx rx
theorem FnOk.newD {CX : CXT} {k n : Nat} {f : Addr} {fd : FuncData} {ps : List Str} {dT : DF} (F : FnOk P w K mg base CX k f fd ps (spN K n dT)) : FnOk P w K mg base CX k f fd ps (spD K n dT) := F.imp fun _ _ _ _ => spN_of
end
end QD

/-! QD55: a new list is walked and then handed back; a pair that leans on an own list. -/
namespace QD
open PySem L2
section
variable {K : PySem.W.Frag} {c : Fm} {H0 : Hp} {ta tb te : TE} {ts us tr : TS} {ds : DS}
theorem set_self {σ : L2.St} {i : Nat} {v : V} (h : σ[i]? = some (some v)) : σ.set i (some v) = σ := by
  apply List.ext_getElem?
  intro k
  by_cases hk : i = k
  · subst hk
    rw [List.getElem?_set_self (List.getElem?_eq_some_iff.mp h).1, h]
  · rw [List.getElem?_set_ne hk]
/-- for .. in (what walks x): body; return x; within the body x is known by its address alone -/
def dForRet (i : Nat) (di : DI) (dg : DG) (db : DS) : DSN := fun P ρ => dEntOwn ρ i fun ds => di (ρ.set i (some (Ent.val (.lst ds)))) fun xs => ∀ p : Addr,
  dLoop dg db { nx := fun ρ' => ρ'[i]? = some (some (Ent.val (.raw (.ref p)))) ∧ P ds, rt := fun _ => False } xs (ρ.set i (some (Ent.val (.raw (.ref p)))))
theorem sn_forRet {i : Nat} {wi : TI} {di : DI} {g : TG} {dg : DG} {db : DS} (hi : SimI K c H0 wi di) (hg : SimG K c H0 g dg) (hb : SimS K c H0 ts db) : SimSN K c H0 (tSeq (tFor wi g ts) (tRet (tVar i))) (dForRet i di dg db) := by
  intro P ρ h O σ H Dn F rp gF q
  obtain ⟨ds, e0, h⟩ := entOwn h
  obtain ⟨p, _, hv, hp, hx, xs, rfl, ra⟩ := rp.own i _ e0
  obtain ⟨O', rp', g'⟩ := rp.less2 (O' := O) e0
  have hpH := rp.fresh p hp
  have hpM := rp.notM hp
  obtain ⟨v, hv', rv⟩ := rp'.val i (.lst ds) (List.getElem?_set_self (List.getElem?_eq_some_iff.mp e0).1)
  have : v = .ref p := by
    have := hv'.symm.trans hv
    injection this with this
    injection this
  subst this
  obtain ⟨p', ys, ep, hpx, _⟩ := rv
  cases ep
  have hpx : (but H (c.M ++ O')) p = some (.lst xs) := by
    have h1 := (but_some hpx)
    rw [h1.2] at hx
    cases hx
    exact hpx
  refine hi _ _ h O' σ H _ rp' fun J zs H1 h1 rp1 e1 w => ?_
  have h1 := h1 p
  obtain ⟨G, Y, wk, hG, hY⟩ := w
  have g1 := e1.but (M := c.M ++ O') fun a z => List.mem_append_left _ (c.sub a z)
  have rpr : Rep K c H0 O' H1 σ (ρ.set i (some (Ent.val (.raw (.ref p))))) := by
    have := rp1.setVal i (d := .raw (.ref p)) (v := .ref p) rfl
    rw [List.set_set, set_self hv] at this
    exact this
  have fin : ∀ ρ2 O2 σ2 H2, Rep K c H0 O2 H2 σ2 ρ2 → Grow (but H1 (c.M ++ O')) (but H2 (c.M ++ O2)) → (ρ2[i]? = some (some (Ent.val (.raw (.ref p)))) ∧ P ds) → tRet (tVar i) Dn σ2 H2 := fun ρ2 O2 σ2 H2 rp2 g2 lp => by
    obtain ⟨lp1, lp2⟩ := lp
    obtain ⟨u, hu, ru⟩ := rp2.val i _ lp1
    have : u = .ref p := ru
    subst this
    have hp2 := g2 _ _ (g1 _ _ hpx)
    refine ⟨.ref p, hu, q p xs ds H2 lp2 rp2.inv rp2.ent hpH (but_some hp2).2 (RA.grow (fun a o z => ?_) _ _ ra)⟩
    obtain ⟨z1, z2⟩ := but_some z
    have z3 := but_some (g2 _ _ (g1 _ _ (g' _ _ (but_of z1 z2))))
    refine but_of (fun y => ?_) z3.2
    rcases List.mem_append.mp y with y | y
    · exact z1 (List.mem_append_left _ y)
    · rw [List.mem_singleton.mp y] at z1
      exact z1 (List.mem_append_right _ hp)
  refine for_it wk (fun j σ2 H2 => ∃ ρ2 O2, Rep K c H0 O2 H2 σ2 ρ2 ∧ Grow (but H1 (c.M ++ O')) (but H2 (c.M ++ O2)) ∧ dLoop dg db { nx := fun ρ' => ρ'[i]? = some (some (Ent.val (.raw (.ref p)))) ∧ P ds, rt := fun _ => False } (zs.drop j) ρ2)
    ⟨_, O', rpr, Grow.refl _, h1⟩ (fun j σ2 H2 _ ⟨ρ2, O2, _, gg, _⟩ => hG H2 (gg.trans but_grow)) (fun j x σ2 H2 H3 hlt ⟨ρ2, O2, rp2, g2, lp⟩ y => ?_) fun σ2 H2 ⟨ρ2, O2, rp2, g2, lp⟩ => ?_
  · rw [drop_cons_of hlt] at lp
    obtain ⟨gr3, rp3, rx3⟩ := (hY j H2 x H3 _ (List.getElem?_eq_getElem hlt) y).rep rp2 g2
    have g3 : Grow (but H1 (c.M ++ O')) (but H3 (c.M ++ O2)) := g2.trans (Ex.but (S := []) (Ex.of gr3) (fun a z => by simp at z))
    refine hg zs[j] ρ2 _ lp x O2 σ2 H3 _ rp3 rx3 fun ρ4 σ4 lp4 rp4 => ?_
    exact hb _ ρ4 lp4 O2 σ4 H3 _ (but H1 (c.M ++ O')) rp4 g3 ⟨fun ρ5 O5 σ5 H5 h5 rp5 g5 => ⟨ρ5, O5, rp5, g5, h5⟩, fun v d H' z => z.elim, fun ρ5 O5 σ5 H5 h5 rp5 g5 => fin ρ5 O5 σ5 H5 rp5 g5 h5, fun ρ5 O5 σ5 H5 h5 rp5 g5 => ⟨ρ5, O5, rp5, g5, h5⟩⟩
  · rw [List.drop_length] at lp
    exact fin ρ2 O2 σ2 H2 rp2 g2 lp
/-- x = (s, l) if t else e; if t2: b; .. where l is an own list that b may change (and then sets x anew) -/
def dDirty (i j : Nat) (s : Str) (dt : DT) (de : DE) (dt2 : DT) (db dr : DS) : DS := fun Dd ρ => dt ρ fun k => if k = true then dEntOwn ρ i fun xs => 2 ≤ sizeLine ∧ dt2 (ρ.set j none) fun k2 => if k2 = true then db { Dd with nx := dr Dd } (ρ.set j none) else
    dr Dd ((ρ.set i (some (Ent.val (.lst xs)))).set j (some (Ent.val (.tup [.str s, .lst xs]))))
  else de ρ fun d b => b = false ∧ dt2 (ρ.set j (some (Ent.val d))) fun k2 => if k2 = true then db { Dd with nx := dr Dd } (ρ.set j (some (Ent.val d))) else dr Dd (ρ.set j (some (Ent.val d)))
theorem Rep.forget {O : List Addr} {H : Hp} {σ : L2.St} {ρ : DEnv} {j : Nat} {v : V} (r : Rep K c H0 O H σ ρ) (hm : c.me = none ∨ j ≠ 0) : Rep K c H0 O H (σ.set j (some v)) (ρ.set j none) := by
  have ne : ∀ {k : Nat} {e : Ent}, (ρ.set j none)[k]? = some (some e) → j ≠ k ∧ ρ[k]? = some (some e) := fun {k e} q => by
    by_cases hk : j = k
    · subst hk
      have hl : j < ρ.length := by
        have := (List.getElem?_eq_some_iff.mp q).1
        rwa [List.length_set] at this
      rw [List.getElem?_set_self hl] at q
      cases q
    · rw [List.getElem?_set_ne hk] at q
      exact ⟨hk, q⟩
  refine ⟨r.inv0, r.inv, r.ent, r.fresh, r.liv, by rw [List.length_set, List.length_set]; exact r.len, fun k d q => ?_, fun k d q => ?_, fun k l d e p q1 q2 z1 z2 => ?_, fun x C fs h q => ?_⟩
  · obtain ⟨h1, h2⟩ := ne q
    obtain ⟨u, h3, h4⟩ := r.val k d h2
    exact ⟨u, by rw [List.getElem?_set_ne h1]; exact h3, h4⟩
  · obtain ⟨h1, h2⟩ := ne q
    obtain ⟨p, o, h3, h4⟩ := r.own k d h2
    exact ⟨p, o, by rw [List.getElem?_set_ne h1]; exact h3, h4⟩
  · obtain ⟨h1, h2⟩ := ne q1
    obtain ⟨h3, h4⟩ := ne q2
    rw [List.getElem?_set_ne h1] at z1
    rw [List.getElem?_set_ne h3] at z2
    exact r.sep k l d e p h2 h4 z1 z2
  · obtain ⟨h1, h2⟩ := ne q
    rw [List.getElem?_set_ne h1]
    exact r.me x C fs h h2
theorem sim_dirty {i j : Nat} {s : Str} {t t2 : TT} {dt dt2 : DT} {de : DE} {db dr : DS} (hij : i ≠ j) (hj : j ≠ 0) (ht : SimT K c H0 t dt) (he : SimE K c H0 te de) (ht2 : SimT K c H0 t2 dt2) (hb : SimS K c H0 ts db) (hr : SimS K c H0 tr dr) :
    SimS K c H0 (tSeq (tAsg (tIf t (tTup (tCons (tC (.str s)) (tCons (tVar i) tNil))) te) (gName j)) (tSeq (tIfS t2 ts tNext) tr)) (dDirty i j s dt de dt2 db dr) := by
  intro Dd ρ h O σ H Dn F rp g R
  refine ht ρ _ h O σ H _ rp fun k H1 h1 rp1 e1 => ?_
  have g1 := g.ex e1
  cases k with
  | true =>
    obtain ⟨xs, e0, hz, h1⟩ := entOwn h1
    obtain ⟨p, _, hv, hp, hx, ys, rfl, ra⟩ := rp1.own i _ e0
    refine ⟨.ref p, hv, hz, fun l hl => ?_⟩
    have e2 : Ex c.S H1 (upd H1 l (.tup [V.str s, V.ref p])) := Ex.new hl
    have rp2 := rp1.up e2 (c.st _ _ (Grow.new hl) rp1.inv)
    refine ht2 _ _ h1 O _ _ _ (rp2.forget (j := j) (v := .ref l) (.inr hj)) fun k2 H3 h3 rp3 e3 => ?_
    have g3 := (g1.ex e2).ex e3
    cases k2 with
    | true => exact hb _ _ h3 O _ H3 _ F rp3 g3 ⟨fun ρ' O' σ' H' h' rp' g' => hr Dd ρ' h' O' σ' H' Dn F rp' g' R, R.rt, R.bk, R.ct⟩
    | false =>
      have hlS : l ∉ c.S := fun z => c.liv H1 rp1.inv l (c.sub l z) hl
      have hl3 : H3 l = some (.tup [V.str s, V.ref p]) := e3 _ _ upd_same hlS
      have noK : ∀ a, KdAt H3 a → a ≠ l := fun a ka z => by
        subst z
        obtain ⟨o, h1, h2⟩ := ka
        rw [h1] at hl3
        cases hl3
        cases h2
      have ei : (ρ.set j none)[i]? = some (some (Ent.own (.lst xs))) := by rw [List.getElem?_set_ne fun z => hij z.symm]; exact e0
      obtain ⟨O', rp4, g4⟩ := rp3.less2 (O' := O) ei
      obtain ⟨v, hv4, rv4⟩ := rp4.val i (.lst xs) (List.getElem?_set_self (List.getElem?_eq_some_iff.mp ei).1)
      have : v = .ref p := by
        rw [List.getElem?_set_ne fun z => hij z.symm] at hv4
        have := hv4.symm.trans hv
        injection this with this
        injection this
      subst this
      have rp5 := rp4.setVal j (d := .tup [.str s, .lst xs]) (v := .ref l) ⟨l, _, rfl, .inl (.inl (but_of (fun z => ?_) hl3)), _, _, rfl, rfl, _, _, rfl, rv4, rfl⟩
      · have ee : ((ρ.set j none).set i (some (Ent.val (.lst xs)))).set j (some (Ent.val (.tup [.str s, .lst xs]))) = (ρ.set i (some (Ent.val (.lst xs)))).set j (some (Ent.val (.tup [.str s, .lst xs]))) := by
          rw [List.set_comm _ _ (fun z => hij z.symm), List.set_set]
        have es : (σ.set j (some (.ref l))).set j (some (.ref l)) = σ.set j (some (V.ref l)) := List.set_set ..
        rw [ee, es] at rp5
        exact hr Dd _ h3 O' _ H3 Dn F rp5 (g3.trans g4) R
      · rcases List.mem_append.mp z with z | z
        · exact noK l (c.kd H3 rp3.inv l z) rfl
        · exact noK l (rp4.liv l z) rfl
  | false =>
    refine he ρ _ h1 O σ H1 _ rp1 fun v d b H2 h2 rp2 e2 rv => ?_
    obtain ⟨hb0, h2⟩ := h2
    subst hb0
    refine ht2 _ _ h2 O _ H2 _ (rp2.setVal j rv) fun k2 H3 h3 rp3 e3 => ?_
    have g3 := (g1.ex e2).ex e3
    cases k2 with
    | true => exact hb _ _ h3 O _ H3 _ F rp3 g3 ⟨fun ρ' O' σ' H' h' rp' g' => hr Dd ρ' h' O' σ' H' Dn F rp' g' R, R.rt, R.bk, R.ct⟩
    | false => exact hr Dd _ h3 O _ H3 Dn F rp3 g3 R
end
end QD

/-! QD56: QD54's and QD55's readings, run from their front. -/
namespace QD
open PySem L2
section
variable {A : DS} {B : DSN} {PI : List D → Prop} {ρ : DEnv} {i j n : Nat} {dn : DN} {de a b : DE} {Dd : DEnds} {di : DI} {dg : DG} {db dr : DS} {bag : Option (Addr × Addr)} {dT : DF} {dd : List D} {da : DA} {Er : DEr} {s : Str} {dt dt2 : DT} {d : D}
theorem go_seqN : Go (dSeqN A B PI ρ) = Go (A { nx := fun ρ' => B PI ρ', rt := fun _ => False } ρ) := (rfl)
theorem go_retO : Go (dRetO i PI ρ) = Go (dEntOwn ρ i PI) := (rfl)
theorem go_retE : Go (dRetE dn PI ρ) = Go (dn ρ PI) := (rfl)
theorem go_callXN : Go (dnCallX bag n dT dd da Er ρ PI) = Go (da ρ fun xs b => b = false ∧ (xs ++ dd).length = n ∧ dT bag (xs ++ dd) (fun z => optP z.isLst PI) Er) := (rfl)
theorem go_appN : Go (dAppN dn de Dd ρ) = Go (dn ρ fun ds => de ρ fun _ _ => ds.length < sizeLine ∧ Dd.nx ρ) := (rfl)
theorem go_nsplit : Go (dnSplit a b ρ PI) = Go (a ρ fun x _ => asStr x fun s => b ρ fun y _ => asStr y fun s' => ((s'.length == 0) = false ∧ s.length + 2 ≤ sizeLine) ∧ PI ((Txt.split s s').map D.str)) := (rfl)
theorem go_forRet : Go (dForRet i di dg db PI ρ) = Go (dEntOwn ρ i fun ds => di (ρ.set i (some (Ent.val (.lst ds)))) fun xs => ∀ p : Addr, dLoop dg db { nx := fun ρ' => ρ'[i]? = some (some (Ent.val (.raw (.ref p)))) ∧ PI ds, rt := fun _ => False } xs (ρ.set i (some (Ent.val (.raw (.ref p)))))) := (rfl)
theorem go_dirty : Go (dDirty i j s dt de dt2 db dr Dd ρ) = Go (dt ρ fun k => if k = true then dEntOwn ρ i fun xs => 2 ≤ sizeLine ∧ dt2 (ρ.set j none) fun k2 => if k2 = true then db { Dd with nx := dr Dd } (ρ.set j none) else
    dr Dd ((ρ.set i (some (Ent.val (.lst xs)))).set j (some (Ent.val (.tup [.str s, .lst xs]))))
  else de ρ fun d b => b = false ∧ dt2 (ρ.set j (some (Ent.val d))) fun k2 => if k2 = true then db { Dd with nx := dr Dd } (ρ.set j (some (Ent.val d))) else dr Dd (ρ.set j (some (Ent.val d)))) := (rfl)
end
end QD

/-! QD57: an own list made by a comprehension. -/
namespace QD
open PySem L2
section
variable {K : PySem.W.Frag} {c : Fm} {H0 : Hp} {ta tb te : TE} {da db de : DE}
theorem sn_lc {wi : TI} {di : DI} {g : TG} {dg : DG} {tt : TT} {dt : DT} {vs : List Nat} (hi : SimI K c H0 wi di) (hg : SimGn K c H0 g dg vs) (ht : SimT K c H0 tt dt) (he : SimE K c H0 te de) : SimN K c H0 (tLc wi g tt te vs) (dnLc di dg dt de vs) := by
  intro ρ P h O σ H Q rp q
  refine hi ρ _ h O σ H _ rp fun J xs H1 h1 rp1 e1 w => ?_
  intro D hD
  obtain ⟨G, Y, wk, hG, hY⟩ := w
  have rpD := rp1.more (o := HO.lst []) hD
  have hnM := rp1.new hD
  have hno := rp1.own_ne hD
  have gD : Grow (but H1 (c.M ++ O)) (but (upd H1 D (.lst [])) (c.M ++ D :: O)) := fun a u e => by
    obtain ⟨n, e⟩ := but_some e
    have hne : a ≠ D := ne_of_none e hD
    refine but_of (fun z => ?_) (by rw [upd_ne hne]; exact e)
    rcases List.mem_append.mp z with z | z
    · exact n (List.mem_append_left _ z)
    · rcases List.mem_cons.mp z with z | z
      · exact hne z
      · exact n (List.mem_append_right _ z)
  refine lc_it wk (fun i H2 => ∃ av ad, Rep K c H0 (D :: O) H2 σ ρ ∧ H2 D = some (.lst av) ∧ RA K (but H2 (c.M ++ D :: O)) ad av ∧ Ex c.S H1 H2 ∧ Grow (but H1 (c.M ++ O)) (but H2 (c.M ++ D :: O)) ∧ lcGo dg dt de vs ρ ad (xs.drop i) P)
    ⟨[], [], rpD, upd_same, rfl, Ex.new hD, gD, h1⟩ (fun i H2 _ ⟨av, ad, _, _, _, _, gg, _⟩ => hG H2 (gg.trans but_grow)) (fun i x H2 H3 hlt ⟨av, ad, rp2, hD2, ra2, ex2, g2, lg⟩ y => ?_) fun H2 ⟨av, ad, rp2, hD2, ra2, ex2, g2, lg⟩ => ?_
  · rw [drop_cons_of hlt] at lg
    obtain ⟨gr3, rp3, rx3⟩ := (hY i H2 x H3 _ (List.getElem?_eq_getElem hlt) y).rep rp2 g2
    have hD3 := gr3 _ _ hD2
    have ra3 : RA K (but H3 (c.M ++ D :: O)) ad av := RA.grow (Ex.but (S := []) (Ex.of gr3) (fun a z => by simp at z)) _ _ ra2
    have g3 : Grow (but H1 (c.M ++ O)) (but H3 (c.M ++ D :: O)) := g2.trans (Ex.but (S := []) (Ex.of gr3) (fun a z => by simp at z))
    have rpw := rp3.wipe vs
    refine hg xs[i] _ _ lg x (D :: O) (wipe σ vs) H3 _ rpw rx3 fun ρ2 σ2 lg2 rp4 hl4 same4 => ?_
    refine ⟨?_, ?_⟩
    · have e1 : wipe σ2 vs = wipe (wipe σ vs) vs := wipe_ext hl4 fun k hk => (same4 k hk).1
      rw [e1]
      exact wipe_ext (wipe_len σ vs) fun k hk => wipe_get σ hk
    · refine ht ρ2 _ lg2 (D :: O) σ2 H3 _ rp4 fun k H4 lg4 rp5 e5 => ?_
      have hDS : D ∉ c.S := rp2.notS List.mem_cons_self
      cases k with
      | false =>
        refine ⟨av, ad, rp3.up e5 rp5.inv, e5 _ _ hD3 hDS, RA.grow (e5.but fun a z => List.mem_append_left _ (c.sub a z)) _ _ ra3, (ex2.trans (Ex.of gr3)).trans e5, g3.ex e5, ?_⟩
        exact lg4
      | true =>
        have lg4 : de ρ2 fun d b => b = false ∧ ad.length < sizeLine ∧ lcGo dg dt de vs ρ (ad ++ [d]) (xs.drop (i + 1)) P := lg4
        show te σ2 H4 _
        refine he ρ2 _ lg4 (D :: O) σ2 H4 _ rp5 fun y d b H5 lg5 rp6 e6 ry => ?_
        obtain ⟨hb, hsz, lg6⟩ := lg5
        subst hb
        have e56 := e5.trans e6
        have hD5 := e56 _ _ hD3 hDS
        have ra5 : RA K (but H5 (c.M ++ D :: O)) ad av := RA.grow (e56.but fun a z => List.mem_append_left _ (c.sub a z)) _ _ ra3
        refine ⟨av, hD5, by rw [ra5.length]; exact hsz, av ++ [y], ad ++ [d], (rp3.up e56 rp6.inv).store List.mem_cons_self _ hno, upd_same, ?_, ?_, ?_, lg6⟩
        · refine RA.grow (fun a u e => ?_) _ _ (ra5.snoc ry)
          obtain ⟨n, e⟩ := but_some e
          have hne : a ≠ D := fun z => n (List.mem_append_right _ (z ▸ List.mem_cons_self))
          exact but_of n (by rw [upd_ne hne]; exact e)
        · intro a u e n
          have hne : a ≠ D := ne_of_none e hD
          rw [upd_ne hne]
          exact ((ex2.trans (Ex.of gr3)).trans e56) a u e n
        · refine (g3.ex e56).trans fun a u e => ?_
          obtain ⟨n, e⟩ := but_some e
          have hne : a ≠ D := fun z => n (List.mem_append_right _ (z ▸ List.mem_cons_self))
          exact but_of n (by rw [upd_ne hne]; exact e)
  · rw [List.drop_length] at lg
    exact q D av ad H2 lg rp2 hno hD2 ra2 ((e1.but fun a z => List.mem_append_left _ (c.sub a z)).trans g2) (e1.trans ex2) fun z => hnM (List.mem_append_right _ z)
theorem go_nlc {di : DI} {dg : DG} {dt : DT} {de : DE} {vs : List Nat} {ρ : DEnv} {P : List D → Prop} : Go (dnLc di dg dt de vs ρ P) = Go (di ρ fun xs => lcGo dg dt de vs ρ [] xs P) := (rfl)
end
end QD

/-! QD58: sorted(..) of a list of alike data, any length. -/
namespace QD
open PySem L2
/-- sorted(xs), the items read as alike data -/
def rSortD (K : PySem.W.Frag) (n : Nat) : List V → Hp → VK → Prop := fun vs H Q => ∃ (a : Addr) (bs : List (V × PyData)), vs = [V.ref a] ∧ SqL K H a (bs.map (·.1)) ∧ (∀ b ∈ bs, Dp K H b.1 b.2) ∧ PySem.W.AllAlike (bs.map (·.2)) ∧ PySem.W.Sortable (bs.map (·.2)) ∧ bs.length ≤ sizeLine ∧ (∀ b ∈ bs, b.2.depth ≤ n) ∧
  ∀ p, H p = none → Q (.ref p) (upd H p (.lst ((bs.mergeSort (PySem.W.dataLe false (·.2))).map (·.1))))
theorem eachV : ∀ {bs : List (V × PyData)} {us : List Value}, Vals (bs.map (·.1)) us → PySem.W.EachIs (fun v (b : V × PyData) => RelV b.1 v) us bs
  | [], _, .nil => .nil
  | _ :: _, _, .cons r t => .cons r (eachV t)
theorem eachD {X : Cx} {pins : List (Addr × Obj)} {σ : L2.St} {H : Hp} {s : Shared} (I : Inv X pins σ H s) : ∀ {bs : List (V × PyData)} {us : List Value}, (∀ b ∈ bs, Dp X.K H b.1 b.2) → Vals (bs.map (·.1)) us → PySem.W.EachIs (fun v (b : V × PyData) => ∃ as, Reads s.heap v b.2 as) us bs
  | [], _, _, .nil => .nil
  | b :: _, _, h, .cons r t => .cons (Dp.reads I b.2 b.1 _ (h b List.mem_cons_self) r) (eachD I (fun c hc => h c (List.mem_cons_of_mem _ hc)) t)
theorem eachB : ∀ {bs : List (V × PyData)} {us : List Value}, PySem.W.EachIs (fun v (b : V × PyData) => RelV b.1 v) us bs → Vals (bs.map (·.1)) us
  | _, _, .nil => .nil
  | _, _, .cons r t => .cons r (eachB t)
theorem q_sortD {X : Cx} {n : Nat} (hu : X.A.units + 2 + n < cLine) : CallR X (.builtin "sorted") (rSortD X.K n) := by
  intro pins s σ H vs us Q I r h
  obtain ⟨a, bs, rfl, hs, hd, hal, hk, hl, hdep, q⟩ := h
  obtain ⟨its, rv, hli, _⟩ := I.list hs
  rw [Vals.ref1 r]
  refine PySem.W.sorted_data (R := fun v (b : V × PyData) => RelV b.1 v) (enc := (·.2)) hli.isList (eachV rv) (eachD I hd rv) hal hk hl (fun b hb => by have := hdep b hb; omega) fun out h1 h2 => ?_
  obtain ⟨ep, he'⟩ := PyProof.Rows.sortedAll_at s.heap its out.toArray
  have hr := eachB h2
  have hlen : ((bs.mergeSort (PySem.W.dataLe false (·.2))).map (·.1)).length ≤ sizeLine := by
    rw [List.length_map, List.length_mergeSort]; exact hl
  exact ⟨.ref _, upd H (s.heap.objs.size + 1) (.lst _), I.laid (t' := s.toks) (fun _ _ => PyProof.Rows.sortedAll_old) (Nat.le_succ _) ⟨hlen, out, ep, hr, he'⟩, rfl, q _ (I.hok.fresh (Nat.le_succ _))⟩
/-! by data -/
def pyOf (d : D) : PyData := (toPy d).getD .none
def leD (x y : D) : Bool := PySem.W.dataLe false pyOf x y
def sortD (ds : List D) : List D := ds.mergeSort leD
structure SortOk (ds : List D) : Prop where
  py : ∀ d ∈ ds, (toPy d).isSome = true
  dep : ∀ d ∈ ds, (pyOf d).depth ≤ 8
  alike : PySem.W.AllAlike (ds.map pyOf)
  sortable : PySem.W.Sortable (ds.map pyOf)
def dSortD : DC
  | [.lst ds], P => ds.length ≤ sizeLine ∧ SortOk ds ∧ P (.lst (sortD ds))
  | _, _ => False
theorem RA.zip {K : PySem.W.Frag} {H : Hp} : ∀ {ds : List D} {vs : List V}, RA K H ds vs → (ds.zip vs).map (·.1) = ds ∧ (ds.zip vs).map (·.2) = vs ∧ ∀ t ∈ ds.zip vs, R K H t.1 t.2
  | [], vs, h => by
    rw [show vs = [] from h]
    exact ⟨rfl, rfl, fun t ht => by simp at ht⟩
  | d :: ds, vs, h => by
    obtain ⟨v, r, rfl, h1, h2⟩ := h
    obtain ⟨a, b, k⟩ := RA.zip h2
    refine ⟨by rw [List.zip_cons_cons, List.map_cons, a], by rw [List.zip_cons_cons, List.map_cons, b], fun t ht => ?_⟩
    rw [List.zip_cons_cons] at ht
    rcases List.mem_cons.mp ht with rfl | ht
    · exact h1
    · exact k t ht
theorem RA.unzip {K : PySem.W.Frag} {H : Hp} : ∀ {T : List (D × V)}, (∀ t ∈ T, R K H t.1 t.2) → RA K H (T.map (·.1)) (T.map (·.2))
  | [], _ => rfl
  | t :: T, h => ⟨t.2, T.map (·.2), rfl, h t List.mem_cons_self, RA.unzip fun z hz => h z (List.mem_cons_of_mem _ hz)⟩
section
variable {K : PySem.W.Frag} {c : Fm} {H0 : Hp}
theorem sc_sortD : SimC K c H0 (rSortD K 8) dSortD := by
  intro xs P h O H Q vs b σ ρ rp rx q
  unfold dSortD at h
  split at h
  · rename_i ds
    obtain ⟨hz, ok, hP⟩ := h
    obtain ⟨v, r, rfl, h1, h2⟩ := rx
    rw [show r = [] from h2]
    obtain ⟨a, ys, rfl, ha, ra⟩ := h1
    obtain ⟨z1, z2, z3⟩ := RA.zip ra
    obtain ⟨T, hT⟩ : ∃ T, T = ds.zip ys := ⟨_, rfl⟩
    rw [← hT] at z1 z2 z3
    have e1 : ds.map pyOf = T.map fun t => pyOf t.1 := by rw [← z1, List.map_map]; rfl
    have eb1 : (T.map fun t => (t.2, pyOf t.1)).map (·.1) = ys := by rw [List.map_map, ← z2]; rfl
    have eb2 : (T.map fun t => (t.2, pyOf t.1)).map (·.2) = ds.map pyOf := by rw [List.map_map, e1]; rfl
    have md : ∀ t ∈ T, t.1 ∈ ds := fun t ht => by rw [← z1]; exact List.mem_map.mpr ⟨t, ht, rfl⟩
    refine ⟨a, T.map fun t => (t.2, pyOf t.1), rfl, ?_, ?_, by rw [eb2]; exact ok.alike, by rw [eb2]; exact ok.sortable, ?_, ?_, fun p hp => ?_⟩
    · rw [eb1]
      exact .inl (.inl (but_grow _ _ ha))
    · intro t ht
      obtain ⟨t, hm, rfl⟩ := List.mem_map.mp ht
      obtain ⟨y, hy⟩ := Option.isSome_iff_exists.mp (ok.py _ (md t hm))
      have : pyOf t.1 = y := by unfold pyOf; rw [hy]; rfl
      show Dp K H t.2 (pyOf t.1)
      rw [this]
      exact R.dp _ _ _ hy (R.grow but_grow _ _ (z3 t hm))
    · rw [List.length_map]
      have := congrArg List.length z1
      rw [List.length_map] at this
      omega
    · intro t ht
      obtain ⟨t, hm, rfl⟩ := List.mem_map.mp ht
      exact ok.dep _ (md t hm)
    · have s1 : (T.mergeSort fun x y => leD x.1 y.1).map (·.1) = sortD ds := by
        unfold sortD
        rw [← z1]
        exact PySem.W.sort_maps (r := fun x y : D × V => leD x.1 y.1) (s := leD) (fun t : D × V => t.1) fun _ _ _ _ => rfl
      have s2 : (((T.map fun t => (t.2, pyOf t.1)).mergeSort (PySem.W.dataLe false (·.2))).map (·.1)) = (T.mergeSort fun x y => leD x.1 y.1).map (·.2) := by
        rw [← PySem.W.sort_maps (r := fun x y => leD x.1 y.1) (s := PySem.W.dataLe false (·.2)) (fun t : D × V => (t.2, pyOf t.1)) fun _ _ _ _ => rfl, List.map_map]
        rfl
      rw [s2]
      obtain ⟨w1, w2, w3⟩ := sr_new (b := b) rp hp (RA.unzip (T := T.mergeSort fun x y => leD x.1 y.1) fun t ht => z3 t (List.mem_mergeSort.mp ht))
      rw [s1] at w3
      exact q _ _ _ hP w1 w2 w3
  · exact h.elim
end
theorem go_sortL {xs : List D} {Pd : D → Prop} : Go (dSortD [.lst xs] Pd) = Go (xs.length ≤ sizeLine ∧ SortOk xs ∧ Pd (.lst (sortD xs))) := (rfl)
end QD

/-! QD59: sets of keys that lie on the heap (tuples of texts and ints). -/
namespace QD
open PySem L2 PyProof.Rows PySem.Spec
section
variable {P : Program} {w : World} {κ : Type} [DecidableEq κ]
/-- what else is asked of such keys -/
structure CalmK (HK : HeapKind P w κ) : Prop where
  byv : ∀ {A : Around} {E : Value → Shared → Prop} {s : Shared} {k : κ} {a : Addr} {Q : Bool → Shared → Prop}, HK.is s.heap k a → (∀ b, Q b s) → wpAny (model P w) A (hashByValue 8 (.ref a)) Q E s
  cls : ∀ {A : Around} {E : Value → Shared → Prop} {s : Shared} {k : κ} {a : Addr} {Q : Bool → Shared → Prop}, HK.is s.heap k a → Q false s → wpAny (model P w) A (ofAClassStatement 8 (.ref a)) Q E s
  aft : ∀ {h h' : Heap} {k : κ} {a : Addr}, HK.is h k a → (∀ o, h.get? a = some o → h'.get? a = some o) → HK.is h' k a
  tup : ∀ {h : Heap} {k : κ} {a : Addr}, HK.is h k a → ∃ o its n, h.get? a = some o ∧ o.data = .seq its n
abbrev Prs (κ : Type) := List (Addr × κ)
def keysIn (L : Prs κ) : List κ := L.map (·.2)
variable (HK : HeapKind P w κ)
def hashes (L : Prs κ) : List Int := L.map fun q => HK.hash q.2
def entries (L : Prs κ) : List (Int × Value) := L.map fun q => (HK.hash q.2, Value.ref q.1)
/-- a set's object, its table told -/
structure HSet (h : Heap) (S : Addr) (L : Prs κ) (es : Array (Int × Value)) (ep : Nat) (t : SetTable) : Prop where
  here : ∃ o, h.get? S = some o ∧ o.ExactSet ∧ o.data = .set es ep t
  list : es.toList = entries HK L
  lay : TabOk t (hashes HK L)
  once : (keysIn L).Nodup
  keys : ∀ q ∈ L, HK.is h q.2 q.1
  order : w.params.followText "set-order" = true ∨ t.led = true
  space : L.length * 5 < t.mask * 3
variable {HK} {h : Heap} {S : Addr} {L : Prs κ} {es : Array (Int × Value)} {ep : Nat} {t : SetTable}
theorem entries_len (e : es.toList = entries HK L) : es.size = L.length := by
  rw [← Array.length_toList, e]
  exact List.length_map ..
theorem fits_of (T : TabOk t (hashes HK L)) (e : es.toList = entries HK L) (le : L.length ≤ t.mask) : t.fits es.size = true := by
  have c := T.sz
  unfold hashes at c
  rw [List.length_map] at c
  simp only [SetTable.fits, SetTable.fill, T.dm, Bool.and_eq_true, beq_iff_eq, decide_eq_true_eq, List.size_toArray, List.length_nil]
  rw [entries_len e]
  omega
theorem HSet.fit (T : HSet HK h S L es ep t) : t.fits es.size = true := fits_of T.lay T.list (by have := T.space; omega)
theorem HSet.ent (T : HSet HK h S L es ep t) {i : Nat} {q : Addr × κ} (e : L[i]? = some q) : es[i]? = some (HK.hash q.2, Value.ref q.1) := by
  have z : es.toList[i]? = some (HK.hash q.2, Value.ref q.1) := by
    rw [T.list]
    show (L.map _)[i]? = _
    rw [List.getElem?_map, e]
    rfl
  simpa using z
variable {A : Around} {E : Value → Shared → Prop} {s : Shared}
theorem unseen_of (C : CalmK HK) {k : κ} {b : Addr} (hk : HK.is s.heap k b) {Q : Bool → Shared → Prop} {ys : List Value} (hys : ∀ y ∈ ys, ∃ c k', y = Value.ref c ∧ HK.is s.heap k' c) (hq : Q false s) : wpAny (model P w) A (searchCouldBeSeen (.ref b) ys) Q E s := by
  unfold searchCouldBeSeen
  refine wpAny_bind (wpAny_forIn_list _ (fun left r s' => s' = s ∧ r.1 = none ∧ ∀ y ∈ left, ∃ c k', y = Value.ref c ∧ HK.is s.heap k' c) _ (fun v left r s' hv => ?_) (fun r s' hr => ?_) _ _ ⟨rfl, rfl, hys⟩)
  · obtain ⟨rfl, e, all⟩ := hv
    obtain ⟨c, k', rfl, hc⟩ := all v List.mem_cons_self
    have out := fun y hy => all y (List.mem_cons_of_mem _ hy)
    by_cases z : (b == c || (carriedByValue (.ref b) && carriedByValue (.ref c))) = true
    · exact wp_if_pos z (wpAny_pure ⟨rfl, rfl, out⟩)
    · refine wp_if_neg z (wpAny_bind (HK.quiet hk ?_))
      refine wp_if_neg Bool.false_ne_true (wpAny_bind (HK.quiet hc ?_))
      refine wp_if_neg Bool.false_ne_true (wpAny_bind (C.cls hk ?_))
      refine wp_if_neg Bool.false_ne_true (wpAny_bind (C.cls hc ?_))
      exact wp_if_neg Bool.false_ne_true (wpAny_pure ⟨rfl, rfl, out⟩)
  · obtain ⟨rfl, e, _⟩ := hr
    obtain ⟨r1, r2⟩ := r
    cases e
    exact wpAny_pure hq
/-- the first steps of a probe carry no dummy -/
theorem step_dm (m : Nat) : ∀ (n : Nat) (p : SetTable.Probe), p.dummy = none → (nth m p n).dummy = none
  | 0, _, e => e
  | n + 1, p, e => step_dm m n (adv m p) (by unfold adv; split <;> exact e)
abbrev way0 (m : Nat) (x : Int) : SetTable.Probe := runAt m (SetTable.bits x % (m + 1)) (SetTable.bits x)
/-- a search, begun anywhere on its way -/
theorem HSet.look (T : HSet HK s.heap S L es ep t) (C : CalmK HK) (room : HK.room A) {x : Addr} {k : κ} (hx : HK.is s.heap k x) {z : Nat} (hz : z < 10 * SetTable.turns t.mask) (free : way t.mask (HK.hash k) z ∉ t.place.toList) (full : ∀ c, c < z → way t.mask (HK.hash k) c ∈ t.place.toList)
    {Q : SetFound → Shared → Prop} (yes : k ∈ keysIn L → Q (.there none) s) (no : k ∉ keysIn L → Q (.free (way t.mask (HK.hash k) z) false) s) (fuel : Nat) : ∀ (c : Nat) (st : Option SetTable.Probe), c ≤ z → z < fuel + c → st.getD (t.probeStart (HK.hash k)) = nth t.mask (way0 t.mask (HK.hash k)) c →
    (∀ (i : Nat) (q : Addr × κ), L[i]? = some q → q.2 = k → ∃ d, c ≤ d ∧ d < z ∧ t.place.toList[i]? = some (way t.mask (HK.hash k) d)) → wpAny (model P w) A (setSearchFrom S (.ref x) (HK.hash k) true fuel st) Q E s := by
  obtain ⟨o, ho, _, hd⟩ := T.here
  induction fuel with
  | zero => intro c st h1 h2; omega
  | succ fuel ih =>
    intro c st h1 h2 hst ahead
    obtain ⟨g, hg⟩ : ∃ g, g = HK.hash k := ⟨_, rfl⟩
    rw [← hg] at hst free ⊢
    simp only [← hg] at full ahead no ih
    have shift : ∀ q, nth t.mask (nth t.mask (way0 t.mask g) c) q = nth t.mask (way0 t.mask g) (c + q) := fun q => (nth_add t.mask c _ q).symm
    have slotAt : ∀ q, (nth t.mask (nth t.mask (way0 t.mask g) c) q).j = way t.mask g (c + q) := fun q => by rw [shift]
    have hashed : ∀ (i : Nat) (q : Addr × κ), L[i]? = some q → (es[i]?.map (·.1)).getD 0 = HK.hash q.2 := fun i q e => by rw [T.ent e]; rfl
    have told := go_spec t T.lay.ris T.lay.dm (fun i => (es[i]?.map (·.1)).getD 0) g (10 * SetTable.turns t.mask) (z - c) (nth t.mask (way0 t.mask g) c) (step_dm _ _ _ rfl) (by omega)
      (fun q hq => by rw [slotAt]; exact full _ (by omega)) (by rw [slotAt, Nat.add_sub_of_le h1]; exact free)
    -- what is passed over holds no such key
    have passed : ∀ n, (∀ (k' i' : Nat), k' < n → t.place.toList[i']? = some (nth t.mask (nth t.mask (way0 t.mask g) c) k').j → (es[i']?.map (·.1)).getD 0 ≠ g) → ∀ (i : Nat) (q : Addr × κ), L[i]? = some q → q.2 = k → ∀ d, c ≤ d → d < c + n → t.place.toList[i]? ≠ some (way t.mask g d) := fun n hn i q e ek d d1 d2 ed => by
      refine hn (d - c) i (by omega) (by rw [slotAt, Nat.add_sub_of_le d1]; exact ed) ?_
      rw [hashed i q e, ek, hg]
    rw [setSearchFrom_succ]
    refine wpAny_bind (wpAny_setState_of ho hd T.fit (wp_if_neg ?_ ?_))
    · have := mask_odd T.lay.mok
      simp [SetTable.gaveWay, this]
    rcases told with ⟨q, i, hq, hi, hh, hno, hp⟩ | ⟨hno, hp⟩
    · have hp2 : t.probe (fun i => (es[i]?.map (·.1)).getD 0) g (st.getD (t.probeStart g)) = some (.candidate (way t.mask g (c + q)) i (nth t.mask (way0 t.mask g) (c + (q + 1)))) := by
        rw [hst, ← slotAt, ← shift]
        exact hp
      rw [hp2]
      rw [slotAt] at hi
      have live := slot_live T.lay.ris hi
      obtain ⟨y, hy⟩ : ∃ y, L[i]? = some y := by
        have b1 := (List.getElem?_eq_some_iff.mp hi).1
        have b2 := T.lay.sz
        unfold hashes at b2
        rw [List.length_map] at b2
        rw [Array.length_toList, b2] at b1
        exact ⟨_, List.getElem?_eq_getElem b1⟩
      have my := List.mem_of_getElem? hy
      have core : wpAny (model P w) A (searchRest S (.ref x) g true fuel es t (way t.mask g (c + q)) i (nth t.mask (way0 t.mask g) (c + (q + 1)))) Q E s := by
        unfold searchRest
        rw [T.ent hy]
        refine wpAny_bind (wpAny_holding (HK.eqBool room (T.keys y my) hx (wpAny_bind (wpAny_setState_of ho hd T.fit ?_))))
        by_cases ek : y.2 = k
        · exact wp_if_pos (by simp [ek]) (wpAny_pure (yes (List.mem_map.mpr ⟨y, my, ek⟩)))
        · refine wp_if_neg (by simp [ek]) ?_
          rw [sameMem]
          simp only [if_true, live, T.ent hy]
          refine wpAny_bind (wpAny_isSame_ref_self (wpAny_bind (wpAny_pure ?_)))
          simp only [if_true]
          refine wp_if_neg (by simp [ek]) (ih (c + (q + 1)) _ (by omega) (by omega) rfl fun i0 q0 e0 k0 => ?_)
          obtain ⟨d, d1, d2, d3⟩ := ahead i0 q0 e0 k0
          refine ⟨d, ?_, d2, d3⟩
          rcases Nat.lt_trichotomy d (c + q) with lt | eq | gt
          · exact absurd d3 (passed q hno i0 q0 e0 k0 d d1 lt)
          · subst eq
            have live2 := slot_live T.lay.ris d3
            rw [live] at live2
            injection live2 with e2
            rw [← e2, hy] at e0
            exact absurd ((congrArg Prod.snd (Option.some.inj e0)).trans k0) ek
          · omega
      by_cases led : t.led = true
      · exact wp_if_neg (by simp [led]) core
      · refine wp_if_pos (by simp [led]) (wpAny_bind (unseen_of C hx (fun v hv => ?_) (wp_if_neg Bool.false_ne_true core)))
        obtain ⟨e, he, rfl⟩ := List.mem_map.mp hv
        have he2 : e ∈ es.toList := by
          have : e ∈ es ∧ e.1 = g := by simpa using he
          simpa using this.1
        rw [T.list] at he2
        obtain ⟨r, hr, rfl⟩ := List.mem_map.mp he2
        exact ⟨r.1, r.2, rfl, T.keys r hr⟩
    · have hp2 : t.probe (fun i => (es[i]?.map (·.1)).getD 0) g (st.getD (t.probeStart g)) = some (.empty (way t.mask g z) none) := by
        have e2 : way t.mask g z = (nth t.mask (nth t.mask (way0 t.mask g) c) (z - c)).j := by rw [slotAt, Nat.add_sub_of_le h1]
        rw [hst, e2]
        exact hp
      rw [hp2]
      refine wpAny_pure (no fun hm => ?_)
      obtain ⟨q0, m0, k0⟩ := List.mem_map.mp hm
      obtain ⟨i0, hi0, e0⟩ := List.getElem_of_mem m0
      have e1 : L[i0]? = some q0 := by rw [List.getElem?_eq_getElem hi0, e0]
      obtain ⟨d, d1, d2, d3⟩ := ahead i0 q0 e1 k0
      exact passed (z - c) hno i0 q0 e1 k0 d d1 (by omega) d3
theorem HSet.seek (T : HSet HK s.heap S L es ep t) (C : CalmK HK) (room : HK.room A) {x : Addr} {k : κ} (hx : HK.is s.heap k x) {Q : SetFound → Shared → Prop} (yes : k ∈ keysIn L → Q (.there none) s)
    (no : k ∉ keysIn L → ∀ z, way t.mask (HK.hash k) z ∉ t.place.toList → (∀ c, c < z → way t.mask (HK.hash k) c ∈ t.place.toList) → Q (.free (way t.mask (HK.hash k) z) false) s) : wpAny (model P w) A (setSearch S (.ref x) (HK.hash k) true) Q E s := by
  have sp := T.space
  obtain ⟨z, z1, z2, z3⟩ := T.lay.first (by unfold hashes; rw [List.length_map]; omega) (HK.hash k)
  have short : 10 * SetTable.turns t.mask ≤ 100000 := by
    unfold SetTable.turns
    rcases T.lay.mok with e | e | e <;> rw [e] <;> decide
  refine T.look C room hx z1 z2 z3 yes (fun n => no n z z2 z3) 100000 0 none (Nat.zero_le _) (by omega) rfl fun i q e ek => ?_
  have b2 := T.lay.sz
  have b3 : i < L.length := (List.getElem?_eq_some_iff.mp e).1
  have eh : (hashes HK L)[i]? = some (HK.hash k) := by
    unfold hashes at b2 ⊢
    rw [List.getElem?_map, e, ← ek]
    rfl
  have hj : t.place.toList[i]? = some (t.place.toList[i]'(by rw [Array.length_toList, b2]; unfold hashes; rw [List.length_map]; exact b3)) := List.getElem?_eq_getElem _
  obtain ⟨d, d1, d2⟩ := T.lay.before z2 eh hj
  exact ⟨d, Nat.zero_le _, d1, by rw [d2]; exact hj⟩
theorem pick_all (L : Prs κ) : (List.range L.length).filterMap (fun i => L[i]?) = L := by
  have e : (List.range L.length).map (fun i => L[i]?) = L.map some := by
    refine List.ext_getElem? fun i => ?_
    rw [List.getElem?_map, List.getElem?_map]
    by_cases h : i < L.length
    · rw [List.getElem?_range h]
      show some L[i]? = _
      rw [List.getElem?_eq_getElem h]
      rfl
    · rw [List.getElem?_eq_none (by simpa using h), List.getElem?_eq_none (by simpa using h)]
      rfl
  have e2 : (List.range L.length).filterMap (fun i => L[i]?) = ((List.range L.length).map fun i => L[i]?).filterMap id := by rw [List.filterMap_map]; rfl
  rw [e2, e, List.filterMap_map]
  simp
theorem reordered (hr : es.toList = entries HK L) {order : Array Nat} (hp : order.toList.Perm (List.range L.length)) :
    ∃ L2, (order.filterMap (es[·]?)).toList = entries HK L2 ∧ L2.Perm L ∧ hashes HK L2 = order.toList.map fun i => (es.map (·.1)).getD i 0 := by
  have at_ : ∀ i, es[i]? = (L[i]?).map fun q : Addr × κ => (HK.hash q.2, Value.ref q.1) := fun i => by
    rw [← Array.getElem?_toList, hr]
    exact List.getElem?_map ..
  refine ⟨order.toList.filterMap fun i => L[i]?, ?_, ?_, ?_⟩
  · rw [Array.toList_filterMap]
    unfold entries
    rw [List.map_filterMap]
    exact congrFun (congrArg _ (funext at_)) _
  · have := hp.filterMap fun i => L[i]?
    rwa [pick_all] at this
  · have inb : ∀ i ∈ order.toList, i < L.length := fun i hi => List.mem_range.mp (hp.mem_iff.mp hi)
    generalize order.toList = l at inb
    clear hp
    induction l with
    | nil => rfl
    | cons i l ih =>
      have b := inb i List.mem_cons_self
      have e : L[i]? = some L[i] := List.getElem?_eq_getElem b
      rw [List.filterMap_cons_some e, List.map_cons, ← ih fun j hj => inb j (List.mem_cons_of_mem _ hj)]
      have e2 : (es.map (·.1))[i]? = some (HK.hash (L[i]).2) := by rw [Array.getElem?_map, at_, e]; rfl
      show HK.hash _ :: _ = _
      rw [Array.getD_eq_getD_getElem?, e2]
      rfl
theorem keep_is (C : CalmK HK) {h h' : Heap} {k : κ} {b : Addr} (x : HK.is h k b) {o : Obj} (ho : h.get? S = some o) (hd : o.data = .set es ep t) (sb : Heap.SameBut S h h') : HK.is h' k b := by
  refine C.aft x fun u e => ?_
  obtain ⟨o', its, n, e1, e2⟩ := C.tup x
  have ne : b ≠ S := fun z => by
    subst z
    rw [ho] at e1
    cases e1
    rw [hd] at e2
    cases e2
  exact (sb.2 b ne).trans e
/-- the table is laid out anew -/
theorem relaid_set (C : CalmK HK) {o : Obj} (ho : s.heap.get? S = some o) (hex : o.ExactSet) (hd : o.data = .set es ep t) (hr : es.toList = entries HK L) (lay : TabOk t (hashes HK L)) (once : (keysIn L).Nodup) (keys : ∀ q ∈ L, HK.is s.heap q.2 q.1)
    (order : w.params.followText "set-order" = true ∨ t.led = true) (le : L.length ≤ t.mask) {n M : Nat} (hn : SetTable.sizeAbove n - 1 = M) (hM : MaskOk M) (big : L.length * 5 < M * 3) {Q : Unit → Shared → Prop}
    (hQ : ∀ h' L' es' ep' t', Heap.SameBut S s.heap h' → HSet HK h' S L' es' ep' t' → L'.Perm L → Q () { s with heap := h' }) : wpAny (model P w) A (setRelay S n) Q E s := by
  have hz := entries_len hr
  obtain ⟨t', ord, e1, e2, e3, e4, e5, e6, e7⟩ := relaid_ok t (hs := es.map (·.1)) (wanted := n) hn hM (by rw [Array.size_map, hz]; omega)
  rw [Array.size_map, hz] at e2
  obtain ⟨L2, r1, r2, r3⟩ := reordered hr e2
  have hz2 := entries_len r1
  rw [r2.length_eq] at hz2
  have small : SetTable.sizeAbove n ≤ 128 := by rcases hM with e | e | e <;> omega
  rw [setRelay_eq]
  refine wpAny_bind (wpAny_setState_of ho hd (fits_of lay hr le) (wp_if_neg (by rw [sizeLine_eq]; omega) ?_))
  rw [e1]
  refine wpAny_bind (wp_if_neg (by rw [hz2, hz]; simp) (wpAny_pure ?_))
  refine wpAny_storeSet_of ho hd ?_ (by rw [hz2, sizeLine_eq]; rcases hM with e | e | e <;> omega)
  have sb : Heap.SameBut S s.heap (s.heap.update S (Obj.putSet (ord.filterMap (es[·]?)) t')) := Heap.SameBut.update ..
  rw [← r3] at e3
  exact hQ _ L2 _ (ep + 1) t' sb { here := ⟨_, store_at ho hd, ⟨hex.1, hex.2.1, hex.2.2⟩, rfl⟩, list := r1, lay := e3, once := (List.Perm.nodup_iff (List.Perm.map (fun q : Addr × κ => q.2) r2)).mpr once, keys := fun q hq => keep_is C (keys q (r2.mem_iff.mp hq)) ho hd sb, order := by rw [e5]; exact order, space := by rw [r2.length_eq, e4]; exact big } r2
/-- one more key -/
theorem HSet.add (T : HSet HK s.heap S L es ep t) (C : CalmK HK) (room : HK.room A) {x : Addr} {k : κ} (hx : HK.is s.heap k x) (few : L.length < 63) {Q : Bool → Shared → Prop}
    (hQ : ∀ b h' L' es' ep' t', Heap.SameBut S s.heap h' → HSet HK h' S L' es' ep' t' → (k ∈ keysIn L ∧ L' = L) ∨ (k ∉ keysIn L ∧ L'.Perm ((x, k) :: L)) → Q b { s with heap := h' }) : wpAny (model P w) A (setAddHashed S (.ref x) (HK.hash k)) Q E s := by
  obtain ⟨o, ho, hex, hd⟩ := T.here
  have hz := entries_len T.list
  have sp := T.space
  unfold setAddHashed
  rw [show (100000 : Nat) = 99999 + 1 from rfl, setAddHashedIn_succ]
  refine wpAny_holding (wpAny_bind (wpAny_setState_of ho hd T.fit (wp_if_neg (by simp [byScan, Value.scannable]) (wpAny_bind (T.seek C room hx (fun hm => ?_) fun hm z z1 z2 => ?_)))))
  · exact wpAny_pure (hQ false s.heap L es ep t (Heap.SameBut.refl S s.heap) T (.inl ⟨hm, rfl⟩))
  · refine wpAny_bind (wpAny_setState_of ho hd T.fit ?_)
    obtain ⟨q1, q2, q3, q4, q5, _, _, _, q9⟩ := T.lay.put z1 z2
    obtain ⟨pos, hpos⟩ : ∃ pos, pos = SetTable.below t.place (way t.mask (HK.hash k) z) := ⟨_, rfl⟩
    rw [← hpos] at q1 q2 q3
    obtain ⟨t1, ht1⟩ : ∃ t1, t1 = (t.put (way t.mask (HK.hash k) z)).1 := ⟨_, rfl⟩
    have eput : t.put (way t.mask (HK.hash k) z) = (t1, pos) := Prod.ext ht1.symm q1
    rw [← ht1] at q3 q4 q5 q9
    dsimp only
    rw [eput]
    dsimp only
    -- whatever is known of the hash
    have main : ∀ pl : Bool, wpAny (model P w) A (storeSet S (SetTable.insertAt es pos (HK.hash k, Value.ref x)) (if pl = true then t1 else { t1 with plain := false }) >>= fun _ => (do
        if (!false && (if pl = true then t1 else { t1 with plain := false }).tooFull) = true then setRelay S (SetTable.grown (es.size + 1))
        pure true : Sem Bool)) Q E s := fun pl => by
      obtain ⟨t2, ht2⟩ : ∃ t2, t2 = (if pl = true then t1 else { t1 with plain := false }) := ⟨_, rfl⟩
      have g1 : t2.place = t1.place ∧ t2.dummies = t1.dummies ∧ t2.mask = t1.mask ∧ t2.led = t1.led := by rw [ht2]; cases pl <;> exact ⟨rfl, rfl, rfl, rfl⟩
      obtain ⟨g1, g2, g3, g4⟩ := g1
      rw [← ht2]
      obtain ⟨L1, hL1⟩ : ∃ L1, L1 = L.take pos ++ (x, k) :: L.drop pos := ⟨_, rfl⟩
      have pm : L1.Perm ((x, k) :: L) := by rw [hL1]; exact put_perm L pos (x, k)
      have len1 : L1.length = L.length + 1 := pm.length_eq
      have r1 : (SetTable.insertAt es pos (HK.hash k, Value.ref x)).toList = entries HK L1 := by
        rw [SetTable.toList_insertAt, T.list, hL1]
        unfold entries
        rw [List.map_append, List.map_cons, List.map_take, List.map_drop]
      have lay0 : TabOk t1 (hashes HK L1) := by
        have e : hashes HK L1 = (hashes HK L).take pos ++ HK.hash k :: (hashes HK L).drop pos := by
          rw [hL1]
          unfold hashes
          rw [List.map_append, List.map_cons, List.map_take, List.map_drop]
        rw [e]
        exact q3
      have lay1 : TabOk t2 (hashes HK L1) := ⟨by rw [g1]; exact lay0.ris, by rw [g2]; exact lay0.dm, by rw [g1]; exact lay0.sz, by rw [g3]; exact lay0.mok, by rw [g1, g3]; exact lay0.bd, by rw [g1, g3]; exact lay0.reach⟩
      have once1 : (keysIn L1).Nodup := (List.Perm.nodup_iff (List.Perm.map (fun q : Addr × κ => q.2) pm)).mpr (List.nodup_cons.mpr ⟨hm, T.once⟩)
      have zz := entries_len r1
      rw [len1] at zz
      obtain ⟨es1, hes1⟩ : ∃ es1, es1 = SetTable.insertAt es pos (HK.hash k, Value.ref x) := ⟨_, rfl⟩
      rw [← hes1] at r1 zz ⊢
      refine wpAny_bind (wpAny_storeSet_of ho hd ?_ (by rw [zz, sizeLine_eq]; omega))
      have sb : Heap.SameBut S s.heap (s.heap.update S (Obj.putSet es1 t2)) := Heap.SameBut.update ..
      have ho1 := store_at (es' := es1) (t' := t2) ho hd
      have keys1 : ∀ q ∈ L1, HK.is (s.heap.update S (Obj.putSet es1 t2)) q.2 q.1 := fun q hq => by
        rcases List.mem_cons.mp (pm.mem_iff.mp hq) with e | hq
        · rw [e]; exact keep_is C hx ho hd sb
        · exact keep_is C (T.keys q hq) ho hd sb
      have ord1 : w.params.followText "set-order" = true ∨ t2.led = true := by rw [g4, q5]; exact T.order
      have fill2 : t2.fill = L.length + 1 := by
        have : t2.fill = t1.fill := by unfold SetTable.fill; rw [g1, g2]
        rw [this, q9]
        unfold hashes
        rw [List.length_map]
      by_cases hf : t2.tooFull = true
      · have tight := hf
        unfold SetTable.tooFull at tight
        rw [decide_eq_true_eq, fill2, g3, q4] at tight
        have room2 : (t.mask = 7 ∧ L.length = 4) ∨ (t.mask = 31 ∧ L.length = 18) := by
          rcases T.lay.mok with e | e | e <;> rw [e] at tight sp ⊢ <;> omega
        have again : ∀ M, SetTable.sizeAbove (SetTable.grown (es.size + 1)) - 1 = M → MaskOk M → (L.length + 1) * 5 < M * 3 → wpAny (model P w) A (setRelay S (SetTable.grown (es.size + 1))) (fun _ s' => wpAny (model P w) A (pure true) Q E s') E { s with heap := s.heap.update S (Obj.putSet es1 t2) } := fun M m1 m2 m3 =>
          relaid_set (s := { s with heap := s.heap.update S (Obj.putSet es1 t2) }) C ho1 ⟨hex.1, hex.2.1, hex.2.2⟩ rfl r1 lay1 once1 keys1 ord1 (by rw [len1, g3, q4]; rcases room2 with ⟨e, e2⟩ | ⟨e, e2⟩ <;> omega) m1 m2 (by rw [len1]; exact m3)
            fun h2 L2 es2 ep2 t3 sb2 T2 pm2 => wpAny_pure (hQ true h2 L2 es2 ep2 t3 (sb.trans sb2) T2 (.inr ⟨hm, pm2.trans pm⟩))
        refine wp_if_pos (by simp [hf]) (wpAny_bind ?_)
        rcases room2 with ⟨_, e⟩ | ⟨_, e⟩
        · exact again 31 (by rw [hz, e, size_20]) (.inr (.inl rfl)) (by omega)
        · exact again 127 (by rw [hz, e, size_76]) (.inr (.inr rfl)) (by omega)
      · refine wp_if_neg (by simp [hf]) (wpAny_pure (hQ true _ L1 es1 (ep + 1) t2 sb { here := ⟨_, ho1, ⟨hex.1, hex.2.1, hex.2.2⟩, rfl⟩, list := r1, lay := lay1, once := once1, keys := keys1, order := ord1, space := ?_ } (.inr ⟨hm, pm⟩)))
        unfold SetTable.tooFull at hf
        rw [decide_eq_true_eq, fill2] at hf
        rw [len1]
        omega
    by_cases pl1 : t1.plain = true
    · refine wp_if_pos pl1 (wpAny_bind (C.byv hx fun b => ?_))
      exact main b
    · exact wp_if_neg pl1 (wpAny_bind (wpAny_pure (main true)))
end
end QD

/-! QD60: set(xs) of such keys; sorted(set(xs)). -/
namespace QD
open PySem L2 PyProof.Rows PySem.Spec
section
variable {P : Program} {w : World} {κ : Type} [DecidableEq κ] {HK : HeapKind P w κ}
/-- what a set holds of the first items -/
structure Had (ks : Prs κ) (i : Nat) (L : Prs κ) : Prop where
  from_ : ∀ q ∈ L, q ∈ ks.take i
  all : ∀ q ∈ ks.take i, q.2 ∈ keysIn L
theorem Had.zero (ks : Prs κ) : Had ks 0 [] := ⟨fun q h => by simp at h, fun q h => by simp at h⟩
theorem Had.next {ks L L' : Prs κ} {i : Nat} {q : Addr × κ} (g : Had ks i L) (e : ks[i]? = some q) (c : (q.2 ∈ keysIn L ∧ L' = L) ∨ (q.2 ∉ keysIn L ∧ L'.Perm ((q.1, q.2) :: L))) : Had ks (i + 1) L' := by
  have ht : ks.take (i + 1) = ks.take i ++ [q] := by rw [List.take_add_one, e]; rfl
  rcases c with ⟨c, rfl⟩ | ⟨_, c⟩
  · refine ⟨fun r hr => by rw [ht]; exact List.mem_append_left _ (g.from_ r hr), fun r hr => ?_⟩
    rw [ht] at hr
    rcases List.mem_append.mp hr with h | h
    · exact g.all r h
    · rw [List.mem_singleton.mp h]; exact c
  · have mk : ∀ k, k ∈ keysIn L' ↔ k = q.2 ∨ k ∈ keysIn L := fun k => by
      have := (List.Perm.map (fun r : Addr × κ => r.2) c).mem_iff (a := k)
      exact this.trans List.mem_cons
    refine ⟨fun r hr => ?_, fun r hr => ?_⟩
    · rw [ht]
      rcases List.mem_cons.mp (c.mem_iff.mp hr) with h | h
      · rw [h]; exact List.mem_append_right _ List.mem_cons_self
      · exact List.mem_append_left _ (g.from_ r h)
    · rw [ht] at hr
      rw [mk]
      rcases List.mem_append.mp hr with h | h
      · exact .inr (g.all r h)
      · exact .inl (by rw [List.mem_singleton.mp h])
theorem HSet.stay {h h' : Heap} {S : Addr} {L : Prs κ} {es : Array (Int × Value)} {ep : Nat} {t : SetTable} (T : HSet HK h S L es ep t) (k1 : ∀ o, h.get? S = some o → h'.get? S = some o) (k2 : ∀ q ∈ L, HK.is h' q.2 q.1) : HSet HK h' S L es ep t := by
  obtain ⟨o, ho, r⟩ := T.here
  exact { T with here := ⟨o, k1 o ho, r⟩, keys := k2 }
theorem upd_loopT {A : Around} {R : Result → Shared → Prop} {I : Addr} {fp wr : List Addr} {G : Array GenState → Array GenState → Prop} {n : Nat} {Pv : Nat → Value → Prop} {St : Nat → Shared → Prop} (W : WalksS P w A.in1 I fp wr G n Pv St) (S : Addr) (hSf : S ∉ fp) (ks : Prs κ) (hn : n = ks.length) (C : CalmK HK) (room : HK.room A.in1)
    (few : ∀ l : List κ, l.Nodup → (∀ k ∈ l, k ∈ keysIn ks) → l.length < 63) (hval : ∀ i v, Pv i v → ∃ q, ks[i]? = some q ∧ v = Value.ref q.1) (h0 : Heap) (hk : ∀ q ∈ ks, HK.is h0 q.2 q.1) (h0S : h0.get? S = none) (h0w : ∀ b ∈ wr, h0.get? b = none) : ∀ (k i : Nat) (s : Shared), n - i = k → i ≤ n → St i s → (∀ b o, h0.get? b = some o → s.heap.get? b = some o) →
      (∃ L es ep t, HSet HK s.heap S L es ep t ∧ Had ks i L) → (∀ s' L es ep t, Moved (S :: wr) G s s' → HSet HK s'.heap S L es ep t → Had ks n L → (∀ b o, h0.get? b = some o → s'.heap.get? b = some o) → R (.ok (.ret .none)) s') → codeAny (model P w) A (.builtin "set.update.loop" ⟨[.ref S, .ref I], []⟩) R s := by
  have hSw : S ∉ wr := fun h => hSf (W.sub S h)
  have sub : ∀ b ∈ wr, b ∈ S :: wr := fun b hb => List.mem_cons_of_mem S hb
  have old : ∀ {s s' : Shared}, Moved wr G s s' → (∀ b o, h0.get? b = some o → s.heap.get? b = some o) → ∀ b o, h0.get? b = some o → s'.heap.get? b = some o := fun hm kp b o e => hm.heap b o (fun hb => by rw [h0w b hb] at e; cases e) (kp b o e)
  have isAt : ∀ {h' : Heap}, (∀ b o, h0.get? b = some o → h'.get? b = some o) → ∀ q ∈ ks, HK.is h' q.2 q.1 := fun kp q hq => C.aft (hk q hq) fun o e => kp _ o e
  intro k
  induction k with
  | zero =>
    intro i s hik hi hst kp ⟨L, es, ep, t, T, g⟩ hR
    obtain rfl : i = n := by omega
    refine codeAny_builtin F.entry_set_update_loop ?_
    rw [Around.under_plainId F.plain_set_update_loop]
    show wpAny _ _ (Builtin.«set.update.loop» _) _ _ _
    refine wpAny_bind (W.done s _ _ hst fun s' hm => wpAny_pure (hR s' L es ep t (hm.mono sub) (T.stay (fun o e => hm.heap S o hSw e) fun q hq => isAt (old hm kp) q (List.mem_of_mem_take (g.from_ q hq))) g (old hm kp)))
  | succ k ih =>
    intro i s hik hi hst kp ⟨L, es, ep, t, T, g⟩ hR
    refine codeAny_builtin F.entry_set_update_loop ?_
    rw [Around.under_plainId F.plain_set_update_loop]
    show wpAny _ _ (Builtin.«set.update.loop» _) _ _ _
    refine wpAny_bind (W.item i s _ _ (by omega) hst fun v s' hP hst' hm => ?_)
    obtain ⟨q, hq, rfl⟩ := hval i v hP
    have kp' := old hm kp
    have T' : HSet HK s'.heap S L es ep t := T.stay (fun o e => hm.heap S o hSw e) fun r hr => isAt kp' r (List.mem_of_mem_take (g.from_ r hr))
    have hx := isAt kp' q (List.mem_of_getElem? hq)
    have len : L.length < 63 := by
      have := few (keysIn L) T.once fun k hk => by
        obtain ⟨r, hr, rfl⟩ := List.mem_map.mp hk
        exact List.mem_map.mpr ⟨r, List.mem_of_mem_take (g.from_ r hr), rfl⟩
      unfold keysIn at this
      rwa [List.length_map] at this
    refine wpAny_bind (wpAny_holding ?_)
    show wpAny _ _ (setAdd S (.ref q.1)) _ _ _
    refine wpAny_holding (wpAny_bind (HK.pyHash room hx ?_))
    refine HSet.add (s := { s' with toks := s'.toks + HK.draws q.2 }) T' C room hx len fun b h' L' es' ep' t' sb T2 c => ?_
    have kp2 : ∀ b o, h0.get? b = some o → h'.get? b = some o := fun b o e => (sb.2 b fun z => by rw [z, h0S] at e; cases e).trans (kp' b o e)
    refine wpAny_pure ⟨plainId_quiet F.plain_set_update_loop _, ?_⟩
    refine ih (i + 1) _ (by omega) (by omega) (W.frame (i + 1) s' h' _ hst' (Nat.le_add_right _ _) fun b hb o e => ?_) kp2 ⟨L', es', ep', t', T2, g.next hq c⟩ fun s'' L2 es2 ep2 t2 hm2 T3 g3 kp3 => hR s'' L2 es2 ep2 t2 (Moved.trans W.gtrans (Moved.then_heap (hm.mono sub) (Nat.le_add_right _ _) fun b o hb e => ?_) hm2) T3 g3 kp3
    · rw [sb.2 b fun z => hSf (z ▸ hb)]
      exact e
    · rw [sb.2 b fun z => hb (by rw [z]; exact List.mem_cons_self)]
      exact e
theorem hset_new {h : Heap} {S : Addr} (ho : h.get? S = some { cls := Value.type "set", data := Data.set #[] 0 (SetTable.fresh 0 0 (!w.params.followText "set-order")) }) : HSet HK h S [] #[] 0 (SetTable.fresh 0 0 (!w.params.followText "set-order")) where
  here := ⟨_, ho, ⟨rfl, rfl, rfl⟩, rfl⟩
  list := rfl
  lay := ⟨List.Pairwise.nil, rfl, rfl, .inl rfl, (fun x hx => by cases hx), (fun i h j hi => by simp [hashes] at hi)⟩
  once := .nil
  keys := fun q hq => by cases hq
  order := by
    show _ ∨ (!w.params.followText "set-order") = true
    cases w.params.followText "set-order" <;> decide
  space := by
    show 0 * 5 < 7 * 3
    decide
theorem call_set_heap {A : Around} {E : Value → Shared → Prop} {s : Shared} {l : Addr} {items : Array Value} {Q : Value → Shared → Prop} (ks : Prs κ) (hh : A.handled = none) (hl : s.heap.IsList l items) (hi : items.toList = ks.map fun q => Value.ref q.1) (C : CalmK HK) (room : HK.room A.in1.in1.in1) (hk : ∀ q ∈ ks, HK.is s.heap q.2 q.1)
    (few : ∀ l : List κ, l.Nodup → (∀ k ∈ l, k ∈ keysIn ks) → l.length < 63) (h : ∀ (h' : Heap) (tk : Tok) L es ep t, HSet HK h' s.heap.objs.size L es ep t → Had ks ks.length L → (∀ b o, s.heap.get? b = some o → h'.get? b = some o) → Q (.ref s.heap.objs.size) { s with heap := h', toks := tk }) : wpAny (model P w) A (call (.type "set") [.ref l]) Q E s := by
  have his : items.size = ks.length := by rw [← Array.length_toList, hi, List.length_map]
  obtain ⟨ob, hob⟩ : ∃ ob : Obj, ob = { cls := Value.type "set", data := Data.set #[] 0 (SetTable.fresh 0 0 (!w.params.followText "set-order")) } := ⟨_, rfl⟩
  refine callType_by (Q₁ := fun obj s₁ => obj = Value.ref s.heap.objs.size ∧ s₁ = { s with heap := s.heap.push ob }) F.called_set (F.typeCall_set_1 _) F.entry_set_init (code_set_led1 (.ref l) (by rw [hob]; exact ⟨rfl, rfl⟩)) ?_
  rintro obj s₁ ⟨rfl, rfl⟩
  have hS : (s.heap.push ob).get? s.heap.objs.size = some ob := Heap.get?_push_size s.heap (by rw [hob]; rfl)
  have hTS : ({ s with heap := s.heap.push ob } : Shared).TypeIs (.ref s.heap.objs.size) "set" := ⟨ob, hS, by rw [hob]⟩
  refine ⟨hTS, fun h' => check_set_init_1 hTS h', ?_⟩
  show wpAny _ _ (Builtin.«set.__init__» ⟨[.ref s.heap.objs.size, .ref l], []⟩) _ _ _
  obtain ⟨o, ho, hcl, n, hdt⟩ := id hl
  have hl1 : (s.heap.push ob).get? l = some o := Heap.get?_push_of_some _ ho
  unfold Builtin.«set.__init__»
  simp only [noKeywords, pure_bind, List.isEmpty_nil, if_true]
  unfold typeNameOfCut shownTypeOf
  refine wpAny_bind (wpAny_bind (wpAny_bind (wpAny_typeOf hTS ?_)))
  refine wpAny_ite_false rfl (wpAny_pure ?_)
  refine wpAny_pure ?_
  have cc : ∀ nm, checkCount nm 0 1 1 = pure () := fun nm => by unfold checkCount; simp
  refine wpAny_bind (wpAny_of_eq (cc _) ?_)
  refine wpAny_bind (wpAny_pure ?_)
  unfold setUsed setState
  refine wpAny_bind (wpAny_bind (wpAny_bind (wpAny_load hS ?_)))
  rw [hob]
  refine wpAny_ite_false (by cases (w.params.followText "set-order") <;> rfl) (wpAny_pure ?_)
  refine wpAny_pure ?_
  refine wpAny_ite_false (by cases (w.params.followText "set-order") <;> rfl) ?_
  rw [← hob]
  refine wpAny_bind ?_
  have hTl : ({ s with heap := s.heap.push ob } : Shared).TypeIs (.ref l) "list" := ⟨o, hl1, hcl⟩
  have hsls := PySem.F.sub_list_set
  have hslf := PySem.F.sub_list_frozenset
  have hne : (Value.type "list" == Value.type "dict") = false := by decide
  have hl2 : (s.heap.push ob).IsList l items := hl.push _
  have hlS : l < s.heap.objs.size := Heap.lt_size ho
  have hz : (s.heap.push ob).objs.size = s.heap.objs.size + 1 := Heap.size_push ..
  have gone : ∀ b, s.heap.objs.size ≤ b → s.heap.get? b = none := fun b hb => by
    cases q : s.heap.get? b with
    | none => rfl
    | some u => exact absurd (Heap.lt_size q) (Nat.not_lt.mpr hb)
  unfold Builtin.Frozenset.updateFrom
  generalize hPI : pyIter = PI
  wp_walk
  subst hPI
  refine wpAny_pyIter_list hl2 ?_
  refine wpAny_bind (wpAny_runValue ?_)
  have hh3 : A.in1.in1.in1.handled = none := by simp [hh]
  refine upd_loopT ((Walks.list hh3 _ l (by rw [hz]; exact Nat.ne_of_lt (Nat.lt_succ_of_lt hlS)) items).toS) s.heap.objs.size (by rw [hz]; simp only [List.mem_cons, List.mem_singleton, List.not_mem_nil, or_false, not_or]; exact ⟨Nat.ne_of_lt (Nat.lt_succ_self _), Nat.ne_of_gt hlS⟩) ks his C room few (fun i v hv => ?_) s.heap hk (gone _ (Nat.le_refl _)) (fun b hb => gone b ?_) (items.size - 0) 0 _ (by omega) (Nat.zero_le _)
    ⟨⟨_, Heap.get?_push_size _ rfl, rfl, rfl⟩, hl2.push _⟩ (fun b o e => Heap.get?_push_of_some _ (Heap.get?_push_of_some _ e)) ⟨[], #[], 0, _, hset_new (by rw [← hob]; exact Heap.get?_push_of_some _ hS), Had.zero ks⟩ fun s' L es ep t hm T g kp => ?_
  · have e : items.toList[i]? = some v := by rw [Array.getElem?_toList]; exact hv
    rw [hi, List.getElem?_map] at e
    obtain ⟨q, q1, q2⟩ := Option.map_eq_some_iff.mp e
    exact ⟨q, q1, q2.symm⟩
  · rw [List.mem_singleton.mp hb, hz]
    exact Nat.le_succ _
  · obtain ⟨h', g', d', tk', os'⟩ := s'
    have eg : g' = s.gens := hm.gens
    have ed : d' = s.drawn := hm.drawn
    have eo : os' = s.os := hm.os
    subst eg; subst ed; subst eo
    show wpAny _ _ _ _ _ _
    refine wpAny_pure ?_
    show wpAny _ _ (ret Value.none) _ _ _
    rw [his] at g
    exact wpAny_pure ⟨rfl, h h' tk' L es ep t T g kp⟩
/-! sorted -/
theorem refs_perm {L : Prs κ} : ∀ {vs : List Value}, vs.Perm (L.map fun q => Value.ref q.1) → ∃ L0 : Prs κ, L0.Perm L ∧ vs = L0.map fun q => Value.ref q.1 := by
  have key : ∀ {us vs : List Value}, us.Perm vs → ∀ L : Prs κ, vs = L.map (fun q => Value.ref q.1) → ∃ L0 : Prs κ, L0.Perm L ∧ us = L0.map fun q => Value.ref q.1 := fun {us vs} p => by
    induction p with
    | nil => intro L e; exact ⟨L, List.Perm.refl _, e⟩
    | cons x _ ih =>
      intro L e
      cases L with
      | nil => cases e
      | cons q L =>
        rw [List.map_cons] at e
        injection e with e1 e2
        obtain ⟨L0, h1, h2⟩ := ih L e2
        exact ⟨q :: L0, h1.cons q, by rw [List.map_cons, ← e1, h2]⟩
    | swap x y l =>
      intro L e
      match L, e with
      | [], e => cases e
      | [q], e => cases e
      | q :: r :: L, e =>
        simp only [List.map_cons] at e
        injection e with e1 e2
        injection e2 with e2 e3
        exact ⟨r :: q :: L, List.Perm.swap _ _ _, by rw [List.map_cons, List.map_cons, ← e1, ← e2, ← e3]⟩
    | trans _ _ ih1 ih2 =>
      intro L e
      obtain ⟨L1, h1, h2⟩ := ih2 L e
      obtain ⟨L2, h3, h4⟩ := ih1 L1 h2
      exact ⟨L2, h3.trans h1, h4⟩
  intro vs p
  exact key p L rfl
theorem sorted_hset {A : Around} {E : Value → Shared → Prop} {s : Shared} {S : Addr} {L : Prs κ} {es : Array (Int × Value)} {ep : Nat} {t : SetTable} {Q : Value → Shared → Prop} (T : HSet HK s.heap S L es ep t) (C : CalmK HK) (hh : A.handled = none) (few : L.length < 63) (enc : κ → PyData) (rd : ∀ {h : Heap} {k : κ} {a : Addr}, HK.is h k a → Reads h (.ref a) (enc k) [])
    (hal : ∀ q ∈ L, ∀ r ∈ L, PySem.W.alike (enc q.2) (enc r.2) = true) (hs : PySem.W.Sortable (L.map fun q => enc q.2)) (hu : ∀ q ∈ L, A.units + 2 + (enc q.2).depth < cLine)
    (hQ : ∀ s' p (out : Array Value) (c : Nat) (L0 : Prs κ), (∀ b o, s.heap.get? b = some o → s'.heap.get? b = some o) → s'.gens = s.gens → s'.os = s.os → s.heap.objs.size ≤ p → s'.heap.get? p = some (seqObj "list" out c) → L0.Perm L → out.toList = (L0.mergeSort (PySem.W.dataLe false fun q => enc q.2)).map (fun q => Value.ref q.1) → Q (.ref p) s') : wpAny (model P w) A (call (.builtin "sorted") [.ref S]) Q E s := by
  obtain ⟨o, ho, hex, hd⟩ := T.here
  have hz := entries_len T.list
  refine Calls.call_function_entry kind_sorted plain_sorted entry_sorted (args_sorted1 _) ?_
  unfold Builtin.«sorted»
  refine wpAny_bind (m := checkCount "sorted" 1 1 _) (wpAny_pure ?_)
  refine wpAny_bind (collect_set (A := A.in1) hh ⟨o, ho, hex.1, hd⟩ T.fit (by unfold scanBound; omega) T.lay.ris T.order fun s1 vs k1 z1 g1 o1 pm => ?_)
  have ev : es.toList.map (·.2) = L.map fun q => Value.ref q.1 := by
    rw [T.list]
    unfold entries
    rw [List.map_map]
    rfl
  rw [ev] at pm
  obtain ⟨L0, p0, rfl⟩ := refs_perm pm
  have len0 : (L0.map fun q => Value.ref q.1).length = L.length := by rw [List.length_map]; exact p0.length_eq
  refine wpAny_bind (wpAny_newList ?_ (by rw [sizeLine_eq]; omega))
  have hN : (s1.heap.push (seqObj "list" (L0.map fun q => Value.ref q.1).toArray 0)).get? s1.heap.objs.size = some (seqObj "list" (L0.map fun q => Value.ref q.1).toArray 0) := Heap.get?_push_size _ rfl
  have keys0 : ∀ q ∈ L0, HK.is (s1.heap.push (seqObj "list" (L0.map fun q => Value.ref q.1).toArray 0)) q.2 q.1 := fun q hq => C.aft (T.keys q (p0.mem_iff.mp hq)) fun u e => Heap.get?_push_of_some _ (k1 _ u e)
  have each : ∀ {R : Value → Addr × κ → Prop} (M : Prs κ), (∀ q ∈ M, R (.ref q.1) q) → PySem.W.EachIs R (M.map fun q => Value.ref q.1) M := fun {R} M => by
    induction M with
    | nil => exact fun _ => .nil
    | cons q M ih => exact fun h => .cons (h q List.mem_cons_self) (ih fun r hr => h r (List.mem_cons_of_mem _ hr))
  refine wpAny_bind (wpAny_holding (PySem.W.list_sort_data (s := { s1 with heap := s1.heap.push (seqObj "list" (L0.map fun q => Value.ref q.1).toArray 0) }) (R := fun v (q : Addr × κ) => v = Value.ref q.1) (enc := fun q : Addr × κ => enc q.2) hN (each L0 fun q _ => rfl) (each L0 fun q hq => ⟨[], rd (keys0 q hq), by simp⟩)
    (fun d hd d' hd' => ?_) ?_ (by rw [p0.length_eq, sizeLine_eq]; omega) (fun q hq => ?_) fun out h1 h2 => ?_))
  · obtain ⟨q, hq, rfl⟩ := List.mem_map.mp hd
    obtain ⟨r, hr, rfl⟩ := List.mem_map.mp hd'
    exact hal q (p0.mem_iff.mp hq) r (p0.mem_iff.mp hr)
  · rcases hs with hs | hs
    · exact .inl fun d hd => hs d ((p0.map _).mem_iff.mp hd)
    · exact .inr fun d hd => hs d ((p0.map _).mem_iff.mp hd)
  · have := hu q (p0.mem_iff.mp hq)
    show A.units + 1 + 1 + _ < _
    omega
  · obtain ⟨c, hc⟩ := sortedHeap_at (vs := L0.map fun q => Value.ref q.1) (out := out.toArray) hN
    have eo : out = (L0.mergeSort (PySem.W.dataLe false fun q => enc q.2)).map (fun q => Value.ref q.1) := by
      generalize L0.mergeSort (PySem.W.dataLe false fun q => enc q.2) = M at h2
      clear h1 hc
      induction h2 with
      | nil => rfl
      | cons e _ ih => rw [List.map_cons, e, ih]
    refine wpAny_pure ⟨_, rfl, hQ _ s1.heap.objs.size out.toArray c L0 (fun b u e => ?_) g1 o1 z1 hc p0 (by rw [List.toList_toArray]; exact eo)⟩
    have q := k1 b u e
    have lt := Heap.lt_size q
    exact (sortedHeap_old (Nat.ne_of_lt lt) (by rw [size_push']; exact Nat.lt_succ_of_lt lt)).trans (Heap.get?_push_of_some _ q)
end
end QD

/-! QD61: sorted(set(xs)), xs a list of pairs of texts. -/
namespace QD
open PySem L2 PyProof.Rows PySem.Spec
section
variable {P : Program} {w : World}
abbrev MK (P : Program) (w : World) : HeapKind P w (List L2.Key) := tupleKind (mixKind P w)
theorem mix_cls {k : L2.Key} {v : Value} (h : (mixKind P w).is k v = true) (n : Nat) : ofAClassStatement n v = pure false := by
  rcases keyIs_shape h with ⟨i, t, rfl, rfl⟩ | ⟨x, t, rfl, rfl⟩ <;> cases n <;> rfl
theorem mix_byv {k : L2.Key} {v : Value} (h : (mixKind P w).is k v = true) (n : Nat) : ∃ b, hashByValue n v = pure b := by
  rcases keyIs_shape h with ⟨i, t, rfl, rfl⟩ | ⟨x, t, rfl, rfl⟩ <;> cases n <;> exact ⟨_, rfl⟩
theorem items_mem {ks : List L2.Key} {vs : List Value} (h : ItemsAre (mixKind P w) ks vs) : ∀ v ∈ vs, ∃ k, (mixKind P w).is k v = true := by
  induction h with
  | nil => intro v hv; cases hv
  | cons h1 _ ih =>
    intro v hv
    rcases List.mem_cons.mp hv with rfl | hv
    · exact ⟨_, h1⟩
    · exact ih v hv
theorem calm_mix : CalmK (MK P w) where
  byv := by
    intro A E s k a Q hk hq
    have hT := IsTupleKey.typeIs hk
    obtain ⟨o, its, n, ho, _, hd, hi⟩ := hk
    unfold hashByValue
    refine wpAny_bind (wpAny_specialOf hT F.slot_tuple_hash.lookup ?_)
    show wpAny _ _ (seqItems? (.ref a) >>= _) _ _ s
    refine wpAny_bind (wpAny_seqItems ho hd (wpAny_bind ?_))
    show wpAny _ _ (forIn its _ _) _ _ s
    rw [← Array.forIn_toList]
    refine wpAny_forIn_list _ (fun left r s' => s' = s ∧ r.1 = none ∧ ∀ v ∈ left, ∃ k, (mixKind P w).is k v = true) _ (fun v left r s' hv => ?_) (fun r s' hr => ?_) _ _ ⟨rfl, rfl, items_mem hi⟩
    · obtain ⟨rfl, e, all⟩ := hv
      obtain ⟨k', hk'⟩ := all v List.mem_cons_self
      obtain ⟨b, hb⟩ := mix_byv hk' 7
      rw [hb]
      refine wpAny_bind (wpAny_pure ?_)
      cases b with
      | true => exact wp_if_neg Bool.false_ne_true (wpAny_pure ⟨rfl, rfl, fun u hu => all u (List.mem_cons_of_mem _ hu)⟩)
      | false => exact wp_if_pos rfl (wpAny_pure (wpAny_pure (hq false)))
    · obtain ⟨rfl, e, _⟩ := hr
      obtain ⟨r1, r2⟩ := r
      cases e
      exact wpAny_pure (hq true)
  cls := by
    intro A E s k a Q hk hq
    have hT := IsTupleKey.typeIs hk
    obtain ⟨o, its, n, ho, _, hd, hi⟩ := hk
    unfold ofAClassStatement
    refine wpAny_bind (wpAny_typeOf hT ?_)
    have e : (("tuple" : String) == "tuple") = true := by decide
    simp only [e, if_true, Bool.not_true, Bool.false_eq_true, if_false]
    try refine wpAny_bind (wpAny_pure ?_)
    try simp only [Bool.not_true, Bool.false_eq_true, if_false]
    show wpAny _ _ (seqItems? (.ref a) >>= _) _ _ s
    refine wpAny_bind (wpAny_seqItems ho hd (wpAny_bind ?_))
    show wpAny _ _ (forIn its _ _) _ _ s
    rw [← Array.forIn_toList]
    refine wpAny_forIn_list _ (fun left r s' => s' = s ∧ r.1 = none ∧ ∀ v ∈ left, ∃ k, (mixKind P w).is k v = true) _ (fun v left r s' hv => ?_) (fun r s' hr => ?_) _ _ ⟨rfl, rfl, items_mem hi⟩
    · obtain ⟨rfl, e, all⟩ := hv
      obtain ⟨k', hk'⟩ := all v List.mem_cons_self
      rw [mix_cls hk' 7]
      refine wpAny_bind (wpAny_pure ?_)
      exact wp_if_neg Bool.false_ne_true (wpAny_pure ⟨rfl, rfl, fun u hu => all u (List.mem_cons_of_mem _ hu)⟩)
    · obtain ⟨rfl, e, _⟩ := hr
      obtain ⟨r1, r2⟩ := r
      cases e
      exact wpAny_pure hq
  aft := fun ⟨o, its, n, ho, r⟩ k => ⟨o, its, n, k o ho, r⟩
  tup := fun ⟨o, its, n, ho, _, hd, _⟩ => ⟨o, its, n, ho, hd⟩
/-- a key as data -/
def keyPy : L2.Key → PyData
  | .inl i => .int i
  | .inr x => .str x
def keysPy (k : List L2.Key) : PyData := .tuple (k.map keyPy)
theorem keys_read {h : Heap} {ks : List L2.Key} {vs : List Value} (r : ItemsAre (mixKind P w) ks vs) : ReadsAll h vs (ks.map keyPy) [] := by
  induction r with
  | nil => exact .nil
  | @cons k v ks vs h1 _ ih =>
    have : Reads h v (keyPy k) [] := by
      rcases keyIs_shape h1 with ⟨i, t, rfl, rfl⟩ | ⟨x, t, rfl, rfl⟩
      · exact .int i t
      · exact .str x t
    exact ReadsAll.cons this ih
theorem key_read {h : Heap} {k : List L2.Key} {a : Addr} (r : (MK P w).is h k a) : Reads h (.ref a) (keysPy k) [] := by
  obtain ⟨o, its, n, ho, hc, hd, hi⟩ := r
  exact Reads.tuple ho hc hd (keys_read hi)
theorem items_vals : ∀ {k : List L2.Key} {us : List Value}, Vals (k.map kV) us → ItemsAre (mixKind P w) k us
  | [], _, .nil => .nil
  | _ :: _, _, .cons r t => .cons (kV_is r) (items_vals t)
end
section
variable {X : Cx}
theorem key_seq {pins : List (Addr × Obj)} {σ : L2.St} {H : Hp} {s : Shared} {b : Addr} {k : List L2.Key} (I : Inv X pins σ H s) (h : SqT X.K H b (k.map kV)) : (MK X.prog X.w).is s.heap k b := by
  obtain ⟨its, r, ⟨o, ho, hc, n, hd⟩, _⟩ := I.tuple h
  exact ⟨o, its.toArray, n, ho, hc, hd, by simpa using items_vals r⟩
theorem refs_vals : ∀ {ks : Prs (List L2.Key)} {us : List Value}, Vals (ks.map fun q => V.ref q.1) us → us = ks.map fun q => Value.ref q.1
  | [], _, .nil => rfl
  | q :: ks, _, .cons r t => by
    cases r
    rw [refs_vals t]
    rfl
theorem vals_refs : ∀ (ks : Prs (List L2.Key)), Vals (ks.map fun q => V.ref q.1) (ks.map fun q => Value.ref q.1)
  | [] => .nil
  | _ :: ks => .cons rfl (vals_refs ks)
/-- sorted(set(xs)) -/
def tSortSet (K : PySem.W.Frag) (ta : TE) : TE := fun σ H Q => ta σ H fun x H1 => ∃ (l : Addr) (ks : Prs (List L2.Key)), x = V.ref l ∧ SqL K H1 l (ks.map fun q => V.ref q.1) ∧ (∀ q ∈ ks, SqT K H1 q.1 (q.2.map kV)) ∧ (∀ m : List (List L2.Key), m.Nodup → (∀ k ∈ m, k ∈ keysIn ks) → m.length < 63) ∧
  (∀ q ∈ ks, ∀ r ∈ ks, PySem.W.alike (keysPy q.2) (keysPy r.2) = true) ∧ (∀ q ∈ ks, q.2 ≠ []) ∧
  ∀ p (L0 : Prs (List L2.Key)), H1 p = none → (∀ q ∈ L0, q ∈ ks) → (keysIn L0).Nodup → (∀ q ∈ ks, q.2 ∈ keysIn L0) → Q (.ref p) (upd H1 p (.lst ((L0.mergeSort (PySem.W.dataLe false fun q => keysPy q.2)).map fun q => V.ref q.1)))
theorem depth_keys : ∀ k : List L2.Key, (keysPy k).depth ≤ 1 := fun k => by
  have h : PyData.depthAll (k.map keyPy) = 0 := by
    induction k with
    | nil => simp [PyData.depthAll]
    | cons a k ih =>
      rw [List.map_cons, PyData.depthAll, ih]
      cases a <;> simp [keyPy, PyData.depth]
  simp [keysPy, PyData.depth, h]
theorem pe_sortSet {a : Expr} {ta : TE} {p p2 q pos : Pos} (hc : X.calm = true) (hu : X.A.units + 64 < cLine) (hg : Gl X "sorted") (hm : X.mg "sorted" = none) (hb : bootBuiltins "sorted" = some (.builtin "sorted") := by decide +kernel) (hg2 : Gl X "set") (hm2 : X.mg "set" = none) (ha : PE X a ta)
    (na : starEach [a] X.env = (false, eval a X.env) :: starEach [] X.env := by rfl) : PE X (.Call (.Name "sorted" p) [.Call (.Name "set" p2) [a] [] q] [] pos) (tSortSet X.K ta) := by
  refine ⟨fun pins s σ H Q I h => ?_⟩
  refine Call_ (ld_blt I hg hm hb ?_)
  refine callWith_builtin1 (args_cons ?_ rfl) rfl rfl
  refine Call_ (ld_blt I hg2 hm2 boot_set ?_)
  refine callWith_type1 (args_cons (thn (ha.run pins s σ H _ I h) fun v s1 ⟨x, H1, I1, r1, q1⟩ => args_nil ?_) na) na rfl
  obtain ⟨l, ks, rfl, hl, hk, few, hal, hne, q1⟩ := q1
  cases r1
  obtain ⟨its, rv, pl, hz⟩ := I1.list hl
  refine call_set_heap (HK := MK X.prog X.w) ks (I1.ok.hd hc) pl.isList (by simpa using refs_vals rv) calm_mix (by show X.A.units + 1 + 1 + 1 < cLine; omega) (fun r hr => key_seq I1 (hk r hr)) few fun h' tk L es ep t T g kp => ?_
  refine args_nil ?_
  have ht : ks.take ks.length = ks := List.take_length
  have lenL : L.length < 63 := by
    have := few (keysIn L) T.once fun k hk' => by
      obtain ⟨r, hr, rfl⟩ := List.mem_map.mp hk'
      have := g.from_ r hr
      rw [ht] at this
      exact List.mem_map.mpr ⟨r, this, rfl⟩
    unfold keysIn at this
    rwa [List.length_map] at this
  have inks : ∀ r ∈ L, r ∈ ks := fun r hr => by
    have := g.from_ r hr
    rwa [ht] at this
  have I2 : L2.Inv X pins σ H1 { s1 with heap := h', toks := tk } := I1.kept fun b o e => kp b o e
  refine sorted_hset (s := { s1 with heap := h', toks := tk }) T calm_mix (I1.ok.hd hc) lenL keysPy key_read (fun r hr r' hr' => hal r (inks r hr) r' (inks r' hr')) (.inl fun d hd => ?_) (fun r _ => ?_) fun s' p out c L0 k2 e1 e2 hp hget p0 eout => ?_
  · obtain ⟨r, hr, rfl⟩ := List.mem_map.mp hd
    cases z : r.2 with
    | nil => exact absurd z (hne r (inks r hr))
    | cons k kk => exact ⟨keyPy k, kk.map keyPy, rfl⟩
  · have := depth_keys r.2
    show X.A.units + 2 + _ < cLine
    omega
  · have hn : H1 p = none := I2.hok.fresh hp
    have len2 : ((L0.mergeSort (PySem.W.dataLe false fun q => keysPy q.2)).map fun q => V.ref q.1).length ≤ sizeLine := by
      rw [List.length_map, List.length_mergeSort, p0.length_eq, sizeLine_eq]
      omega
    have vl : Vals ((L0.mergeSort (PySem.W.dataLe false fun q => keysPy q.2)).map fun q => V.ref q.1) out.toList := by rw [eout]; exact vals_refs _
    have J := I2.call (ch := []) (Un.laid k2 hp hn) (I2.hok.laid k2 hp (show ObjOk X.prog X.w _ _ _ (.lst _) from ⟨len2, out.toList, c, vl, hget⟩)) (t' := s'.toks) (d' := s'.drawn) (g' := s'.gens) (by rw [e1]; exact I2.bare) (fun _ z => nomatch z)
    obtain ⟨h3, g3, d3, t3, o3⟩ := s'
    cases e2
    exact ⟨.ref p, _, J, rfl, q1 p L0 hn (fun r hr => inks r (p0.mem_iff.mp hr)) ((List.Perm.map (fun z : Addr × List L2.Key => z.2) p0).nodup_iff.mpr T.once) fun r hr => ((List.Perm.map (fun z : Addr × List L2.Key => z.2) p0).mem_iff).mpr (g.all r (by rw [ht]; exact hr))⟩
end
end QD

/-! QD62: the same by data; the order of pairs of texts. -/
namespace QD
open PySem L2 PyProof.Rows PySem.Spec
abbrev Pr := Str × Str
def pD (p : Pr) : D := .tup [.str p.1, .str p.2]
def pK (p : Pr) : List L2.Key := [.inr p.1, .inr p.2]
def pPy (p : Pr) : PyData := .tuple [.str p.1, .str p.2]
theorem pPy_eq (p : Pr) : keysPy (pK p) = pPy p := rfl
theorem pK_inj {p q : Pr} (h : pK p = pK q) : p = q := by
  unfold pK at h
  injection h with h1 h2
  injection h2 with h2 _
  injection h1 with h1
  injection h2 with h2
  exact Prod.ext h1 h2
def leP (p q : Pr) : Bool := PySem.W.dataLe false pPy p q
def sortP (ps : List Pr) : List Pr := ps.mergeSort leP
theorem leP_total : PySem.W.TotalLe leP := PySem.W.sortLe_total (listOrd itemOrd) false fun b => PySem.W.keyToks (pPy b)
theorem leP_anti {p q : Pr} (h1 : leP p q = true) (h2 : leP q p = true) : p = q := by
  unfold leP at h1 h2
  rw [PySem.W.dataLe_eq] at h1 h2
  simp only [cond_false, Bool.not_eq_true'] at h1 h2
  have e := lex_total (O := itemOrd) _ _ h2 h1
  have al : PySem.W.alike (pPy p) (pPy q) = true := by simp [PySem.W.alike, PySem.W.alikeAll, pPy]
  have te := PySem.W.toks_eqv (pPy p) (pPy q) al
  by_cases z : PyData.eqv (pPy p) (pPy q) = true
  · simp only [pPy, PyData.eqv, PyData.eqvAll, Bool.and_true, Bool.and_eq_true] at z
    exact Prod.ext (by simpa using z.1) (by simpa using z.2)
  · have k := te.2 (by simpa using z)
    have a := k [] [.inl 0]
    have b := k [] []
    rw [← b, e] at a
    rw [PySem.W.lex_pre, PySem.W.lex_pre] at a
    cases a
theorem sortP_sorted (ps : List Pr) : (sortP ps).Pairwise fun p q => leP p q = true := List.pairwise_mergeSort leP_total.trans (fun a b => by have := leP_total.total a b; simpa using this) ps
/-- a list in order that has the same items is the sorted one -/
theorem sortP_of {ps qs : List Pr} (hp : qs.Perm ps) (hs : qs.Pairwise fun p q => leP p q = true) : qs = sortP ps :=
  List.Perm.eq_of_pairwise (fun a b _ _ h1 h2 => leP_anti h1 h2) hs (sortP_sorted ps) (hp.trans (List.mergeSort_perm ps leP).symm)
def pairOf : D → Option Pr
  | .tup [.str a, .str b] => some (a, b)
  | _ => none
theorem pairOf_eq {d : D} {p : Pr} (h : pairOf d = some p) : d = pD p := by
  unfold pairOf at h
  split at h
  · cases h; rfl
  · cases h
def pairsOf : List D → Option (List Pr)
  | [] => some []
  | d :: ds => match pairOf d, pairsOf ds with
    | some p, some ps => some (p :: ps)
    | _, _ => none
theorem pairsOf_eq : ∀ {ds : List D} {ps : List Pr}, pairsOf ds = some ps → ds = ps.map pD
  | [], ps, h => by cases h; rfl
  | d :: ds, ps, h => by
    simp only [pairsOf] at h
    split at h
    · rename_i p qs e1 e2
      cases h
      rw [pairOf_eq e1, pairsOf_eq e2]
      rfl
    · cases h
theorem pairsOf_map : ∀ ps : List Pr, pairsOf (ps.map pD) = some ps
  | [] => rfl
  | p :: ps => by
    simp only [List.map_cons, pairsOf, pairsOf_map ps]
    rfl
theorem nodup_dist {κ : Type} [DecidableEq κ] (ks : List κ) : (distK ks).Nodup := by
  suffices h : ∀ (ks σ : List κ), σ.Nodup → (ks.foldl stepK σ).Nodup from h ks [] .nil
  intro ks
  induction ks with
  | nil => exact fun σ h => h
  | cons v r ih =>
    intro σ h
    refine ih _ ?_
    unfold stepK
    split
    · exact h
    · rename_i z
      exact List.nodup_append.mpr ⟨h, by simp, fun a ha b hb e => z (by rw [List.mem_singleton.mp hb] at e; exact e ▸ ha)⟩
theorem mem_dist {κ : Type} [DecidableEq κ] {ks : List κ} {k : κ} : k ∈ distK ks ↔ k ∈ ks := by
  suffices h : ∀ (ks σ : List κ), k ∈ ks.foldl stepK σ ↔ k ∈ σ ∨ k ∈ ks by
    have := h ks []
    simpa [distK] using this
  intro ks
  induction ks with
  | nil => intro σ; simp
  | cons v r ih =>
    intro σ
    rw [List.foldl_cons, ih, stepK_mem, List.mem_cons, or_assoc]
theorem nodup_len {κ : Type} [DecidableEq κ] : ∀ {l m : List κ}, l.Nodup → (∀ k ∈ l, k ∈ m) → l.length ≤ m.length
  | [], _, _, _ => Nat.zero_le _
  | k :: l, m, h, s => by
    obtain ⟨h1, h2⟩ := List.nodup_cons.mp h
    have hk := s k List.mem_cons_self
    have ih := nodup_len (m := m.erase k) h2 fun j hj => (List.mem_erase_of_ne (fun e => h1 (by rw [← e]; exact hj))).mpr (s j (List.mem_cons_of_mem _ hj))
    have e := List.length_erase_of_mem hk
    have hp := List.length_pos_of_mem hk
    rw [List.length_cons]
    omega
def unK : List L2.Key → Pr
  | [.inr a, .inr b] => (a, b)
  | _ => default
theorem pairs_refs {K : PySem.W.Frag} {Hb : Hp} : ∀ {ps : List Pr} {ys : List V}, RA K Hb (ps.map pD) ys → ∃ ks : Prs (List L2.Key), ys = ks.map (fun q => V.ref q.1) ∧ keysIn ks = ps.map pK ∧ ∀ q ∈ ks, q.2 = pK (unK q.2) ∧ R K Hb (pD (unK q.2)) (.ref q.1) ∧ SqT K Hb q.1 (q.2.map kV)
  | [], ys, h => ⟨[], by rw [show ys = [] from h]; rfl, rfl, fun q hq => by cases hq⟩
  | p :: ps, ys, h => by
    obtain ⟨v, r, rfl, h1, h2⟩ := h
    obtain ⟨ks, rfl, e, all⟩ := pairs_refs h2
    have h1' : R K Hb (pD p) v := h1
    obtain ⟨a, xs, rfl, t1, t2⟩ := h1
    have ex : xs = (pK p).map kV := by
      obtain ⟨v1, r1, rfl, g1, g2⟩ := t2
      obtain ⟨v2, r2, rfl, g3, g4⟩ := g2
      rw [show v1 = V.str p.1 from g1, show v2 = V.str p.2 from g3, show r2 = [] from g4]
      rfl
    refine ⟨(a, pK p) :: ks, rfl, by show _ :: keysIn ks = _; rw [e]; rfl, fun q hq => ?_⟩
    rcases List.mem_cons.mp hq with rfl | hq
    · exact ⟨rfl, h1', by rw [← ex]; exact t1⟩
    · exact all q hq
section
variable {K : PySem.W.Frag} {c : Fm} {H0 : Hp} {ta : TE} {da : DE}
def dSortSet (a : DE) : DE := fun ρ P => a ρ fun x b => match x with
  | .lst ds => optP (pairsOf ds) fun ps => (distK ps).length < 63 ∧ P (.lst ((sortP (distK ps)).map pD)) b
  | _ => False
theorem sim_sortSet (ha : SimE K c H0 ta da) : SimE K c H0 (tSortSet K ta) (dSortSet da) := by
  intro ρ P h O σ H Q rp q
  refine ha ρ _ h O σ H _ rp fun v x b H1 h1 rp1 e1 rx => ?_
  cases x with
  | lst ds =>
    obtain ⟨ps, ep, few, hP⟩ := optP_some h1
    rw [pairsOf_eq ep] at rx
    obtain ⟨l, ys, rfl, hl, ra⟩ := rx
    obtain ⟨ks, rfl, ek, all⟩ := pairs_refs ra
    have mk : ∀ k, k ∈ keysIn ks → ∃ p ∈ ps, k = pK p := fun k hk => by
      rw [ek] at hk
      obtain ⟨p, hp, rfl⟩ := List.mem_map.mp hk
      exact ⟨p, hp, rfl⟩
    have kin : ∀ q ∈ ks, unK q.2 ∈ ps := fun q hq => by
      obtain ⟨p, hp, e⟩ := mk q.2 (List.mem_map.mpr ⟨q, hq, rfl⟩)
      rw [e]
      exact hp
    refine ⟨l, ks, rfl, .inl (.inl (tracked_of hl)), fun z hz => grow_t but_grow (all z hz).2.2, fun m hm hin => ?_, fun z hz y hy => ?_, fun z hz e => ?_, fun p L0 hp hin hnd hall => ?_⟩
    · refine Nat.lt_of_le_of_lt (nodup_len (m := (distK ps).map pK) hm fun k hk => ?_) (by rw [List.length_map]; exact few)
      obtain ⟨p, hp, rfl⟩ := mk k (hin k hk)
      exact List.mem_map.mpr ⟨p, mem_dist.mpr hp, rfl⟩
    · rw [(all z hz).1, (all y hy).1, pPy_eq, pPy_eq]
      simp [PySem.W.alike, PySem.W.alikeAll, pPy]
    · have := (all z hz).1
      rw [e] at this
      cases this
    · obtain ⟨M, hM⟩ : ∃ M, M = L0.mergeSort (PySem.W.dataLe false fun q : Addr × List L2.Key => keysPy q.2) := ⟨_, rfl⟩
      have pM : M.Perm L0 := by rw [hM]; exact List.mergeSort_perm ..
      have inM : ∀ z ∈ M, z ∈ ks := fun z hz => hin z (pM.mem_iff.mp hz)
      rw [← hM]
      have tot : PySem.W.TotalLe (PySem.W.dataLe false fun q : Addr × List L2.Key => keysPy q.2) := PySem.W.sortLe_total (listOrd itemOrd) false fun q : Addr × List L2.Key => PySem.W.keyToks (keysPy q.2)
      have sM : M.Pairwise fun z y => PySem.W.dataLe false (fun q : Addr × List L2.Key => keysPy q.2) z y = true := by
        rw [hM]
        exact List.pairwise_mergeSort tot.trans (fun a b => by have := tot.total a b; simpa using this) L0
      have nd : (M.map fun z => unK z.2).Nodup := by
        have n0 : (M.map fun z => z.2).Nodup := (List.Perm.map (fun z : Addr × List L2.Key => z.2) pM).nodup_iff.mpr hnd
        have n1 := List.pairwise_map.mp n0
        refine List.pairwise_map.mpr (n1.imp_of_mem fun {z y} hz hy ne e => ne ?_)
        rw [(all z (inM z hz)).1, (all y (inM y hy)).1, e]
      have eN : (M.map fun z => unK z.2) = sortP (distK ps) := by
        refine sortP_of ((List.perm_ext_iff_of_nodup nd (nodup_dist ps)).mpr fun a => ⟨fun ha => ?_, fun ha => ?_⟩) (List.pairwise_map.mpr (sM.imp_of_mem fun {z y} hz hy e => ?_))
        · obtain ⟨z, hz, rfl⟩ := List.mem_map.mp ha
          exact mem_dist.mpr (kin z (inM z hz))
        · have ha := mem_dist.mp ha
          have : pK a ∈ keysIn ks := by rw [ek]; exact List.mem_map.mpr ⟨a, ha, rfl⟩
          obtain ⟨z, hz, e⟩ := List.mem_map.mp this
          have h2 := hall z hz
          obtain ⟨y, hy, e2⟩ := List.mem_map.mp h2
          exact List.mem_map.mpr ⟨y, pM.mem_iff.mpr hy, by rw [show y.2 = pK a from e2.trans e]; rfl⟩
        · have e' : PySem.W.dataLe false (fun q : Addr × List L2.Key => keysPy q.2) z y = true := e
          show leP (unK z.2) (unK y.2) = true
          have k1 : keysPy z.2 = pPy (unK z.2) := by rw [(all z (inM z hz)).1]; rfl
          have k2 : keysPy y.2 = pPy (unK y.2) := by rw [(all y (inM y hy)).1]; rfl
          rw [PySem.W.dataLe_eq] at e'
          unfold leP
          rw [PySem.W.dataLe_eq]
          dsimp only at e' ⊢
          rw [← k1, ← k2]
          exact e'
      have ra2 := RA.unzip (K := K) (H := but H1 (if b then c.M else c.M ++ O)) (T := M.map fun z => (pD (unK z.2), V.ref z.1)) fun t ht => by
        obtain ⟨z, hz, rfl⟩ := List.mem_map.mp ht
        exact (all z (inM z hz)).2.1
      rw [List.map_map, List.map_map] at ra2
      have ra3 : RBA K c O H1 b ((sortP (distK ps)).map pD) (M.map fun q => V.ref q.1) := by
        rw [← eN, List.map_map]
        exact ra2
      obtain ⟨w1, w2, w3⟩ := sr_new (b := b) rp1 hp ra3
      have rp2 := rp1.up w1 w2
      exact q _ _ _ _ hP rp2 (e1.trans w1) w3
  | _ => exact h1.elim
theorem go_sortSet {a : DE} {ρ : DEnv} {P : D → Bool → Prop} : Go (dSortSet a ρ P) = Go (a ρ fun x b => match x with
  | .lst ds => optP (pairsOf ds) fun ps => (distK ps).length < 63 ∧ P (.lst ((sortP (distK ps)).map pD)) b
  | _ => False) := (rfl)
end
end QD

/-! QD63: sorted of texts, of pairs, in words. -/
namespace QD
open PySem L2 PyProof.Rows PySem.Spec
def leS (x y : Str) : Bool := PySem.W.dataLe false PyData.str x y
def sortS (xs : List Str) : List Str := xs.mergeSort leS
theorem leS_total : PySem.W.TotalLe leS := PySem.W.sortLe_total (listOrd itemOrd) false fun b : Str => PySem.W.keyToks (.str b)
theorem leS_anti {p q : Str} (h1 : leS p q = true) (h2 : leS q p = true) : p = q := by
  unfold leS at h1 h2
  rw [PySem.W.dataLe_str (fun x : Str => x)] at h1 h2
  have a := of_decide_eq_true h1
  have b := of_decide_eq_true h2
  exact PySem.W.str_of_cps (Std.le_antisymm a b)
theorem sortS_sorted (ps : List Str) : (sortS ps).Pairwise fun p q => leS p q = true := List.pairwise_mergeSort leS_total.trans (fun a b => by have := leS_total.total a b; simpa using this) ps
theorem sortS_of {ps qs : List Str} (hp : qs.Perm ps) (hs : qs.Pairwise fun p q => leS p q = true) : qs = sortS ps :=
  List.Perm.eq_of_pairwise (fun a b _ _ h1 h2 => leS_anti h1 h2) hs (sortS_sorted ps) (hp.trans (List.mergeSort_perm ps leS).symm)
theorem sortD_strs (xs : List Str) : sortD (xs.map D.str) = (sortS xs).map D.str :=
  (PySem.W.sort_maps (r := leS) (s := leD) D.str fun _ _ _ _ => rfl).symm
theorem sortD_pairs (ps : List Pr) : sortD (ps.map pD) = (sortP ps).map pD :=
  (PySem.W.sort_maps (r := leP) (s := leD) pD fun _ _ _ _ => rfl).symm
theorem sortOk_strs (xs : List Str) : SortOk (xs.map D.str) where
  py := fun d hd => by obtain ⟨x, _, rfl⟩ := List.mem_map.mp hd; rfl
  dep := fun d hd => by
    obtain ⟨x, _, rfl⟩ := List.mem_map.mp hd
    show (PyData.str x).depth ≤ 8
    simp [PyData.depth]
  alike := fun d hd d' hd' => by
    obtain ⟨_, h1, rfl⟩ := List.mem_map.mp hd
    obtain ⟨_, h2, rfl⟩ := List.mem_map.mp hd'
    obtain ⟨x, _, rfl⟩ := List.mem_map.mp h1
    obtain ⟨y, _, rfl⟩ := List.mem_map.mp h2
    show PySem.W.alike (.str x) (.str y) = true
    simp [PySem.W.alike]
  sortable := .inr fun d hd => by
    obtain ⟨_, h1, rfl⟩ := List.mem_map.mp hd
    obtain ⟨x, _, rfl⟩ := List.mem_map.mp h1
    show PyData.str x ≠ .none ∧ ∀ ys, PyData.str x ≠ .tuple ys
    exact ⟨(fun e => by cases e), (fun _ e => by cases e)⟩
theorem sortOk_pairs (ps : List Pr) : SortOk (ps.map pD) where
  py := fun d hd => by obtain ⟨x, _, rfl⟩ := List.mem_map.mp hd; rfl
  dep := fun d hd => by
    obtain ⟨x, _, rfl⟩ := List.mem_map.mp hd
    show (pPy x).depth ≤ 8
    simp [pPy, PyData.depth, PyData.depthAll]
  alike := fun d hd d' hd' => by
    obtain ⟨_, h1, rfl⟩ := List.mem_map.mp hd
    obtain ⟨_, h2, rfl⟩ := List.mem_map.mp hd'
    obtain ⟨x, _, rfl⟩ := List.mem_map.mp h1
    obtain ⟨y, _, rfl⟩ := List.mem_map.mp h2
    show PySem.W.alike (pPy x) (pPy y) = true
    simp [PySem.W.alike, PySem.W.alikeAll, pPy]
  sortable := .inl fun d hd => by
    obtain ⟨_, h1, rfl⟩ := List.mem_map.mp hd
    obtain ⟨x, _, rfl⟩ := List.mem_map.mp h1
    exact ⟨_, _, rfl⟩
theorem sortP_perm (ps : List Pr) : (sortP ps).Perm ps := List.mergeSort_perm ps leP
theorem sortS_perm (ps : List Str) : (sortS ps).Perm ps := List.mergeSort_perm ps leS
theorem q_sortD8 {X : Cx} (hu : X.A.units + 64 < cLine) : CallR X (.builtin "sorted") (rSortD X.K 8) := q_sortD (by omega)
theorem go_sortSetL {ds : List D} {b : Bool} {P : D → Bool → Prop} : Go ((match D.lst ds with | .lst ds => optP (pairsOf ds) fun ps => (distK ps).length < 63 ∧ P (.lst ((sortP (distK ps)).map pD)) b | _ => False)) = Go (optP (pairsOf ds) fun ps => (distK ps).length < 63 ∧ P (.lst ((sortP (distK ps)).map pD)) b) := (rfl)
end QD

/-! QD64: (x, y) in d, d a dict with such keys. -/
namespace QD
open PySem L2 PyProof.Rows PySem.Spec
def rInT (K : PySem.W.Frag) (neg : Bool) : R2 := fun x y H Q => ∃ (a b : Addr) (kvs : List (List L2.Key × V)) (k : List L2.Key), y = .ref a ∧ Rd H a (.dT kvs) ∧ x = .ref b ∧ SqT K H b (k.map kV) ∧ Q (.bl (if neg = true then !(valV kvs k).isSome else (valV kvs k).isSome)) H
theorem q_inT {X : Cx} (hu : X.A.units + 64 < cLine) : OpR X (compareOp .In) (rInT X.K false) := by
  intro pins s σ H x y v u Q I rx ry h
  obtain ⟨a, b, kvs, k, rfl, hd, rfl, hk, q⟩ := h
  cases (show v = Value.ref b from rx)
  cases (show u = Value.ref a from ry)
  obtain ⟨_, hs, xs, rel, dd⟩ := dt_rd I.hok hd
  refine wpAny_in_heap (tupleKind_room_in1 (by omega)) (key_seq I hk) hs dd ?_
  have e := (rel.val k).isSome_eq
  rw [Option.isSome_map] at e
  rw [← e]
  exact ⟨.bl _, H, I.tok _, rfl, q⟩
theorem q_ninT {X : Cx} (hu : X.A.units + 64 < cLine) : OpR X (compareOp .NotIn) (rInT X.K true) := by
  intro pins s σ H x y v u Q I rx ry h
  obtain ⟨a, b, kvs, k, rfl, hd, rfl, hk, q⟩ := h
  cases (show v = Value.ref b from rx)
  cases (show u = Value.ref a from ry)
  obtain ⟨_, hs, xs, rel, dd⟩ := dt_rd I.hok hd
  refine wpAny_notIn_heap (tupleKind_room_in1 (by omega)) (key_seq I hk) hs dd ?_
  have e := (rel.val k).isSome_eq
  rw [Option.isSome_map] at e
  rw [← e]
  exact ⟨.bl _, H, I.tok _, rfl, q⟩
/-- a key, from data -/
def keyT1 : D → Option L2.Key
  | .str x => some (.inr x)
  | .int i => some (.inl i)
  | _ => none
def keyT : List D → Option (List L2.Key)
  | [] => some []
  | d :: ds => match keyT1 d, keyT ds with
    | some k, some ks => some (k :: ks)
    | _, _ => none
theorem keyT1_eq {K : PySem.W.Frag} {H : Hp} {d : D} {k : L2.Key} {v : V} (e : keyT1 d = some k) (r : R K H d v) : v = kV k := by
  unfold keyT1 at e
  split at e
  · cases e; exact r
  · cases e; exact r
  · cases e
theorem keyT_eq {K : PySem.W.Frag} {H : Hp} : ∀ {ds : List D} {k : List L2.Key} {vs : List V}, keyT ds = some k → RA K H ds vs → vs = k.map kV
  | [], k, vs, e, r => by
    cases e
    exact r
  | d :: ds, k, vs, e, r => by
    simp only [keyT] at e
    split at e
    · rename_i k1 ks e1 e2
      cases e
      obtain ⟨v, us, rfl, r1, r2⟩ := r
      rw [keyT1_eq e1 r1, keyT_eq e2 r2]
      rfl
    · cases e
def hasK (kvs : List (List L2.Key × D)) (k : List L2.Key) : Bool := kvs.any fun p => decide (p.1 = k)
theorem RT.has {K : PySem.W.Frag} {H : Hp} : ∀ {kvs : List (List L2.Key × D)} {gs : List (List L2.Key × V)} (k : List L2.Key), RT K H kvs gs → (valV gs k).isSome = hasK kvs k
  | [], gs, k, h => by
    rw [show gs = [] from h]
    rfl
  | f :: kvs, gs, k, h => by
    obtain ⟨v, r, rfl, h1, h2⟩ := h
    have ih := RT.has k h2
    unfold valV hasK at ih ⊢
    rw [List.find?_cons, List.any_cons]
    cases z : decide (f.1 = k) with
    | true => rfl
    | false => simpa using ih
def dInT (neg : Bool) : DR := fun x y P => match x, y with
  | .tup ds, .dt kvs => optP (keyT ds) fun k => P (.bl (if neg = true then !hasK kvs k else hasK kvs k))
  | _, _ => False
section
variable {K : PySem.W.Frag} {c : Fm} {H0 : Hp}
theorem sr_inT {neg : Bool} : SimR K c H0 (rInT K neg) (dInT neg) := by
  intro x y P h O H Q v u b σ ρ rp rx ry q
  unfold dInT at h
  split at h
  · rename_i ds kvs
    obtain ⟨k, e, h⟩ := optP_some h
    obtain ⟨p, xs, rfl, h1, h2⟩ := rx.here
    obtain ⟨a, gs, rfl, g1, g2⟩ := ry.here
    rw [keyT_eq e h2] at h1
    refine ⟨a, p, gs, k, rfl, g1, rfl, h1, ?_⟩
    rw [RT.has k g2]
    exact q _ _ H h (Ex.refl H) rp.inv rfl
  · exact h.elim
end
theorem go_inTd {neg : Bool} {ds : List D} {kvs : List (List L2.Key × D)} {P : D → Prop} : Go (dInT neg (.tup ds) (.dt kvs) P) = Go (optP (keyT ds) fun k => P (.bl (if neg = true then !hasK kvs k else hasK kvs k))) := (rfl)
end QD

/-! QD65: d[(x, y)] = e, d an own dict with such keys. -/
namespace QD
open PySem L2 PyProof.Rows PySem.Spec
def ownT : Option (Option Ent) → (List (List L2.Key × D) → Prop) → Prop
  | some (some (.own (.dt kvs))), Q => Q kvs
  | _, _ => False
def dEntDt (ρ : DEnv) (i : Nat) (Q : List (List L2.Key × D) → Prop) : Prop := ownT ρ[i]? Q
theorem entDt {ρ : DEnv} {i : Nat} {Q : List (List L2.Key × D) → Prop} (h : dEntDt ρ i Q) : ∃ kvs, ρ[i]? = some (some (Ent.own (.dt kvs))) ∧ Q kvs := by
  unfold dEntDt ownT at h
  split at h
  · rename_i kvs e
    exact ⟨kvs, e, h⟩
  · exact h.elim
def putT (kvs : List (List L2.Key × D)) (k : List L2.Key) (d : D) : List (List L2.Key × D) := if hasK kvs k = true then kvs.map (fun p => if p.1 = k then (p.1, d) else p) else kvs ++ [(k, d)]
section
variable {K : PySem.W.Frag} {H : Hp}
theorem RT.len : ∀ {kvs : List (List L2.Key × D)} {gs : List (List L2.Key × V)}, RT K H kvs gs → gs.length = kvs.length
  | [], gs, h => by rw [show gs = [] from h]; rfl
  | f :: kvs, gs, h => by
    obtain ⟨v, r, rfl, _, h2⟩ := h
    rw [List.length_cons, List.length_cons, RT.len h2]
theorem RT.any : ∀ {kvs : List (List L2.Key × D)} {gs : List (List L2.Key × V)} (k : List L2.Key), RT K H kvs gs → (gs.any fun p => decide (p.1 = k)) = hasK kvs k
  | [], gs, k, h => by rw [show gs = [] from h]; rfl
  | f :: kvs, gs, k, h => by
    obtain ⟨v, r, rfl, _, h2⟩ := h
    have := RT.any k h2
    unfold hasK at this ⊢
    rw [List.any_cons, List.any_cons, this]
theorem RT.over : ∀ {kvs : List (List L2.Key × D)} {gs : List (List L2.Key × V)} {k : List L2.Key} {d : D} {v : V}, RT K H kvs gs → R K H d v → RT K H (kvs.map fun p => if p.1 = k then (p.1, d) else p) (gs.map fun p => if p.1 = k then (p.1, v) else p)
  | [], gs, k, d, v, h, _ => by rw [show gs = [] from h]; rfl
  | f :: kvs, gs, k, d, v, h, hv => by
    obtain ⟨u, r, rfl, h1, h2⟩ := h
    have ih := RT.over (k := k) h2 hv
    rw [List.map_cons, List.map_cons]
    by_cases e : f.1 = k
    · rw [if_pos e, if_pos e]
      exact ⟨v, _, rfl, hv, ih⟩
    · rw [if_neg e, if_neg e]
      exact ⟨u, _, rfl, h1, ih⟩
theorem RT.more : ∀ {kvs : List (List L2.Key × D)} {gs : List (List L2.Key × V)} {k : List L2.Key} {d : D} {v : V}, RT K H kvs gs → R K H d v → RT K H (kvs ++ [(k, d)]) (gs ++ [(k, v)])
  | [], gs, k, d, v, h, hv => by rw [show gs = [] from h]; exact ⟨v, [], rfl, hv, rfl⟩
  | f :: kvs, gs, k, d, v, h, hv => by
    obtain ⟨u, r, rfl, h1, h2⟩ := h
    exact ⟨u, _, rfl, h1, RT.more h2 hv⟩
theorem RT.put {kvs : List (List L2.Key × D)} {gs : List (List L2.Key × V)} {k : List L2.Key} {d : D} {v : V} (h : RT K H kvs gs) (hv : R K H d v) : RT K H (putT kvs k d) (putK gs k v) := by
  unfold putT putK
  rw [RT.any k h]
  split
  · exact RT.over h hv
  · exact RT.more h hv
end
section
variable {K : PySem.W.Frag} {c : Fm} {H0 : Hp} {te : TE} {de : DE} {t : TA} {da : DA}
def dPutT (i : Nat) (da : DA) (de : DE) : DS := fun Dd ρ => de ρ fun d b => dEntDt ρ i fun kvs => da ρ fun ks _ => b = false ∧ ks.length ≤ sizeLine ∧ optP (keyT ks) fun k => kvs.length < sizeLine ∧ Dd.nx (ρ.set i (some (Ent.own (.dt (putT kvs k d)))))
theorem sim_putT {i : Nat} (he : SimE K c H0 te de) (ha : SimA K c H0 t da) : SimS K c H0 (sDPut (tVar i) (tTup t) te) (dPutT i da de) := by
  intro Dd ρ hd O σ H Dn F rp g RR
  refine he ρ _ hd O σ H _ rp fun v d b H1 h1 rp1 e1 rv => ?_
  obtain ⟨kvs, e0, h1⟩ := entDt h1
  obtain ⟨p, _, hv, _⟩ := rp1.own i _ e0
  refine ⟨.ref p, hv, ?_⟩
  refine ha ρ _ h1 O σ H1 _ rp1 fun vs ks b' H2 h2 rp2 e2 rx => ?_
  obtain ⟨hb, hz, h2⟩ := h2
  subst hb
  obtain ⟨k, ek, hl, h3⟩ := optP_some h2
  have evs := keyT_eq ek rx.here
  refine ⟨by rw [rx.len]; exact hz, fun q hq => ?_⟩
  have hn := rp2.new hq
  have ex : Ex c.S H2 (upd H2 q (.tup vs)) := Ex.new hq
  have rp3 := rp2.up ex (c.st _ _ (Grow.new hq) rp2.inv)
  obtain ⟨p', _, hv', hp', hx, gs, rfl, ra⟩ := rp3.own i _ e0
  have : p' = p := by
    have := hv'.symm.trans hv
    injection this with this
    injection this with this
    injection this
  subst this
  have e12 := e2.trans ex
  obtain ⟨r4, g4⟩ := rp3.chg e0 hv' hp' (es := .dt _) (ys := .dT _) ⟨_, rfl, RT.put (k := k) ra (QD.R.grow (e12.but fun a z => List.mem_append_left _ (c.sub a z)) _ _ rv)⟩
  exact ⟨p', _, rfl, .inr ⟨gs, k, q, hx, rfl, by rw [upd_same, evs], by rw [RT.len ra]; exact hl, rfl⟩, RR.nx _ O σ _ h3 r4 ((g.ex ((e1.trans e2).trans ex)).trans g4)⟩
theorem go_putT {i : Nat} {Dd : DEnds} {ρ : DEnv} : Go (dPutT i da de Dd ρ) = Go (de ρ fun d b => dEntDt ρ i fun kvs => da ρ fun ks _ => b = false ∧ ks.length ≤ sizeLine ∧ optP (keyT ks) fun k => kvs.length < sizeLine ∧ Dd.nx (ρ.set i (some (Ent.own (.dt (putT kvs k d)))))) := (rfl)
theorem go_entDt {i : Nat} {ρ : DEnv} {Q : List (List L2.Key × D) → Prop} : Go (dEntDt ρ i Q) = Go (ownT ρ[i]? Q) := (rfl)
theorem go_ownT {kvs : List (List L2.Key × D)} {Q : List (List L2.Key × D) → Prop} : Go (ownT (some (some (Ent.own (.dt kvs)))) Q) = Go (Q kvs) := (rfl)
end
end QD

/-! QD66: {(x, y): e for ..}, a new dict with tuples as keys. -/
namespace QD
open PySem L2 PyProof.Rows PySem.Spec
/-- {k: v for .. in ..}, by the heap behind each store -/
def tDcT (wi : TI) (g : TG) (tt : TT) (tk tv : TE) (vs : List Nat) : TE := fun σ H Q => wi σ H fun J H1 => ∀ D, H1 D = none → ∃ W : Nat → Nat → Hp → Prop, (∃ m, W 0 m (upd H1 D (.dT []))) ∧ ∀ i m Ha, W i m Ha → (J.stop i Ha ∧ Q (.ref D) Ha) ∨
  (J.go i Ha ∧ ∃ N : Hp → Prop, (∀ Hb, N Hb → ∃ m', m' < m ∧ W (i + 1) m' Hb) ∧ ∀ x Hb, J.yld i Ha x Hb → g x (wipe σ vs) Hb fun σ' Hc => wipe σ' vs = wipe σ vs ∧ tt σ' Hc fun b Hd => if b = true then tk σ' Hd fun y He => tv σ' He fun u Hf => ∃ Hg, DPut Hf D y u Hg ∧ N Hg else N Hd)
section
variable {X : Cx}
/-- a store by a comprehension -/
theorem dput_set {pins : List (Addr × Obj)} {σ : L2.St} {H H' : Hp} {s : Shared} {E : Value → Shared → Prop} {D : Addr} {y u : V} {a r : Value} {Q : Unit → Shared → Prop} (hu : X.A.units < cLine) (I : Inv X pins σ H s) (p : DPut H D y u H') (ry : RelV y a) (ru : RelV u r) (hq : ∀ s', Inv X pins σ H' s' → Q () s') : wpAny (model X.prog X.w) X.A (dictSet D a r) Q E s := by
  rcases p with ⟨kvs, k, e, rfl, hl, rfl⟩ | ⟨kvs, k, b, e, rfl, eb, hl, rfl⟩
  · exact d_dictSet I e hl ry ru hq
  · obtain rfl : a = Value.ref b := ry
    obtain ⟨z, hs, xs, rel, dd⟩ := dt_of I.hok e
    have len : (putK kvs k u).length ≤ sizeLine := Nat.le_trans (length_putK kvs k u) hl
    have lx : xs.length ≤ sizeLine := by rw [← Paired.length rel]; exact z
    refine wpAny_dictSet_heap (hsz := lx) (knd := tupleKind (mixKind X.prog X.w)) hu (key_of I.hok eb) dd fun h' dd' sb => hq _ ?_
    obtain ⟨o, es, ep, ho, w1, w2, w3, _, w4⟩ := dd'
    have rel' := (rel.put k eb ru).keeps (H' := upd H D (.dT (putK kvs k u))) fun c ys ec => by
      have ne : c ≠ D := fun q => by rw [q, e] at ec; cases ec
      rw [upd_ne ne]
      exact ec
    exact d_write I (by rw [e]; trivial) sb ⟨o, ho⟩ ⟨len, hs, _, rel', o, es, ep, ho, w1, w2, w3, w4⟩
/-- the turns of such a comprehension, from the first on: Y is the block's context -/
theorem dcT_turns {Y : Cx} {kx vx tg iter : Expr} {ifs : List Expr} {scope : Scope} {pos : Pos} {tt : TT} {g : TG} {tk tv : TE} {vs : List Nat} {σ : L2.St} {J : It} {fp : List Addr} {tn : Nat → Heap → Prop} {it D : Addr} {R : Result → Shared → Prop} (hu : Y.A.units < cLine) (hc : Y.calm = true) (hx : Y.xe = fun _ _ => False)
    (T : Turn Y.prog Y.w Y.K tg J fp it tn) (pg : PG Y tg g) (pt : PTs Y ifs tt) (pk : PE Y kx tk) (pv : PE Y vx tv) (stat : ∀ {σ' : L2.St} {H' : Hp} {s' : Shared}, Inv Y [] σ' H' s' → (∀ b ∈ fp, H' b = none) → ∀ b ∈ fp, FpOk Y [] H' b) {W : Nat → Nat → Hp → Prop} {Fin : Hp → Prop}
    (turn : ∀ i m Ha, W i m Ha → (J.stop i Ha ∧ Fin Ha) ∨ (J.go i Ha ∧ ∃ N : Hp → Prop, (∀ Hb, N Hb → ∃ m', m' < m ∧ W (i + 1) m' Hb) ∧ ∀ x Hb, J.yld i Ha x Hb → g x (wipe σ vs) Hb fun σ' Hc => wipe σ' vs = wipe σ vs ∧ tt σ' Hc fun b Hd => if b = true then tk σ' Hd fun y He => tv σ' He fun u Hf => ∃ Hg, DPut Hf D y u Hg ∧ N Hg else N Hd))
    (ends : ∀ s' H', Inv Y [] (wipe σ vs) H' s' → Fin H' → R (.ok .next) s') {s4 : Shared} {m0 : Nat} {H4 : Hp} (w0 : W 0 m0 H4) (I4 : Inv Y [] (wipe σ vs) H4 s4) (st4 : tn 0 s4.heap) (no4 : ∀ b ∈ fp, H4 b = none) : codeAny (model Y.prog Y.w) Y.A (.compLoop (.DictComp kx vx [⟨tg, iter, ifs, 0⟩] scope pos) 0 (.ref it) (.ref D) Y.env) R s4 := by
  refine compLoop_anyD (fun n s' => ∃ i H', W i n H' ∧ Inv Y [] (wipe σ vs) H' s' ∧ tn i s'.heap ∧ ∀ b ∈ fp, H' b = none) (fun n s5 hI => ?_) m0 ⟨0, H4, w0, I4, st4, no4⟩
  obtain ⟨i, H5, w5, I5, st5, no5⟩ := hI
  rcases turn i n H5 w5 with ⟨stop, fin⟩ | ⟨go, N, hN, step⟩
  · exact thnF (T.done Y rfl rfl rfl hc i [] s5 _ H5 (fun _ _ => False) I5 (stat I5 no5) st5 stop) fun r s6 hr => by
      obtain ⟨rfl, I6⟩ := hr
      exact ends s6 H5 I6 fin
  · refine thnF (T.item Y rfl rfl rfl hc i [] s5 _ H5 (fun _ _ => False) I5 (stat I5 no5) st5 go) fun r s6 hr => ?_
    obtain ⟨u, rfl, h6⟩ := hr
    refine thnF h6 fun _ s7 h7 => ?_
    obtain ⟨x, H7, I7, r7, y7, st7, no7⟩ := h7
    have P7 := I7.pinned (stat I7 no7) (T.obj _ _ st7)
    have quiet : ∀ {α : Type} {t : Sem α} {Qa : α → Shared → Prop} {s' : Shared}, wpAny (model Y.prog Y.w) Y.A t Qa Y.xe s' → wpAny (model Y.prog Y.w) Y.A t Qa (fun _ _ => False) s' := fun h => by rwa [hx] at h
    refine thnF (quiet (pg.run _ s7 _ H7 x u _ P7 r7 (step x H7 y7))) fun _ s8 h8 => ?_
    obtain ⟨σ8, H8, I8, e8, q8⟩ := h8
    -- behind the turn
    have next : ∀ {s' : Shared} {H' : Hp}, N H' → Inv Y ([] ++ pinsAt fp s7.heap) σ8 H' s' → ∃ m', m' < n ∧ ∃ j H9, W j m' H9 ∧ Inv Y [] (wipe σ vs) H9 s' ∧ tn j s'.heap ∧ ∀ b ∈ fp, H9 b = none := fun {s' H'} nx I' => by
      obtain ⟨m', lt, w'⟩ := hN H' nx
      have held : ∀ b ∈ fp, ∀ o, s7.heap.get? b = some o → s'.heap.get? b = some o ∧ H' b = none := fun b hb o e => by
        have z := I'.pin (b, o) (List.mem_append_right _ (List.mem_append_right _ (mem_pinsAt hb e)))
        exact ⟨z.1, z.2.1⟩
      have less : Inv Y [] (wipe σ vs) H' s' := (I'.unpinned (pins := [])).weak (by rw [← e8, wipe_length]) fun j v e => by
        rw [← e8] at e
        exact (wipe_some e).1
      refine ⟨m', lt, i + 1, H', w', less, T.keep _ _ _ st7 fun b hb o e => (held b hb o e).1, fun b hb => ?_⟩
      obtain ⟨o, e, _⟩ := T.obj _ _ st7 b hb
      exact (held b hb o e).2
    refine thnF (quiet (pt.run _ s8 σ8 H8 _ I8 q8)) fun yes s9 h9 => ?_
    obtain ⟨H9, I9, q9⟩ := h9
    cases yes with
    | false => exact next q9 I9
    | true =>
      refine thnF (quiet (pk.run _ s9 σ8 H9 _ I9 q9)) fun ku s10 h10 => ?_
      obtain ⟨ky, H10, I10, r10, q10⟩ := h10
      refine thnF (quiet (pv.run _ s10 σ8 H10 _ I10 q10)) fun vu s11 h11 => ?_
      obtain ⟨vy, H11, I11, r11, H12, put, nx⟩ := h11
      exact dput_set hu I11 put r10 r11 fun s12 I12 => next nx I12
theorem pe_dcT {kx vx tg iter : Expr} {ifs : List Expr} {scope : Scope} {own : List (Str × Nat)} {pos : Pos} {wi : TI} {g : TG} {tt : TT} {tk tv : TE} (hc : X.calm = true) (hu : X.A.units < cLine) (hN : X.N.Nodup) (hi : PI X tg iter wi) (ok : BlkOk X.N X.env.scope scope own)
    (hg : ∀ (s : Shared) (H : Hp) (C : Addr) (cl : List (Str × Addr)) (fp : List Addr), PG (X.blk s H scope (compEnvC scope cl C X.env) fp) tg g) (ht : ∀ (s : Shared) (H : Hp) (C : Addr) (cl : List (Str × Addr)) (fp : List Addr), PTs (X.blk s H scope (compEnvC scope cl C X.env) fp) ifs tt) (hk : ∀ (s : Shared) (H : Hp) (C : Addr) (cl : List (Str × Addr)) (fp : List Addr), PE (X.blk s H scope (compEnvC scope cl C X.env) fp) kx tk)
    (he : ∀ (s : Shared) (H : Hp) (C : Addr) (cl : List (Str × Addr)) (fp : List Addr), PE (X.blk s H scope (compEnvC scope cl C X.env) fp) vx tv) (hs : ∀ x, foldedSetIterable iter X.env x = pure x := by intro _; rfl) : PE X (.DictComp kx vx [⟨tg, iter, ifs, 0⟩] scope pos) (tDcT wi g tt tk tv (own.map (·.2))) := by
  refine ⟨fun pins s σ H Q I h => ?_⟩
  have cells : ∀ y ∈ scope.names, y.2 = .free → ∃ c, X.env.cells.lookup y.1 = some c := fun y hy e => (ok.free y hy e).elim (fun z => I.ok.has _ (.inl z)) fun z => I.ok.has _ (.inr z)
  rw [arm_eval_DictComp]
  refine wpAny_comprehension_free (use := none) rfl hs (closure_ok cells) ok.kind (fun y hy e => by rw [ok.uniq y hy, e]) (thn (hi.run pins s σ H _ I h) fun xv s1 hx => thn hx fun itv s2 h2 => ?_)
  obtain ⟨it, fp, tn, J, H2, rfl, I2, T, st2, f2, q⟩ := h2
  refine wpAny_newObj_type (newEnv_comp ?_)
  -- the new dict
  obtain ⟨D, hD⟩ : ∃ D, D = s2.heap.objs.size := ⟨_, rfl⟩
  have hDn : H2 D = none := I2.hok.fresh (by rw [hD]; exact Nat.le_refl _)
  obtain ⟨W, ⟨m0, w0⟩, turn⟩ := q D hDn
  obtain ⟨s3, hs3⟩ : ∃ s3 : Shared, s3 = { s2 with heap := s2.heap.push { cls := .type "dict", data := .dict #[] } } := ⟨_, rfl⟩
  have grown : ∀ b o, s2.heap.get? b = some o → s3.heap.get? b = some o := fun b o e => by rw [hs3]; exact Heap.get?_push_of_some _ e
  have I3 : Inv X pins σ (upd H2 D (.dT [])) s3 := by
    rw [hs3, hD]
    exact I2.laid (t' := s2.toks) (fun b o e => Heap.get?_push_of_some _ e) (Nat.le_refl _) (dt_empty s2.heap I2.big)
  have sz3 : s3.heap.objs.size = s2.heap.objs.size + 1 := by rw [hs3]; exact Heap.size_push ..
  have f3 : ∀ b ∈ fp, FpOk X pins (upd H2 D (.dT [])) b ∧ b < s3.heap.objs.size := fun b hb => by
    obtain ⟨o, e, _⟩ := T.obj _ _ st2 b hb
    have lt := Heap.lt_size e
    have ne : b ≠ D := by rw [hD]; exact Nat.ne_of_lt lt
    exact ⟨⟨by rw [upd_ne ne]; exact (f2 b hb).1, (f2 b hb).2⟩, by rw [sz3]; exact Nat.lt_succ_of_lt lt⟩
  have st3 : tn 0 s3.heap := T.keep _ _ _ st2 fun b _ o e => grown b o e
  have I4 := block_start I3 ok hN f3
  have push3 : (s2.heap.push { cls := .type "dict", data := .dict #[] }) = s3.heap := by rw [hs3]
  obtain ⟨ce, hce⟩ : ∃ ce, ce = compEnvC scope (cellsFrom (s3.heap.objs.size + 1) scope.names (cloFrom X.env.cells scope.names [])) s3.heap.objs.size X.env := ⟨_, rfl⟩
  obtain ⟨s4, hs4⟩ : ∃ s4 : Shared, s4 = { s3 with heap := pushCells (s3.heap.push { cls := .type "dict", data := .dict #[] }) scope.names } := ⟨_, rfl⟩
  have pg := hg s3 (upd H2 D (.dT [])) s3.heap.objs.size (cellsFrom (s3.heap.objs.size + 1) scope.names (cloFrom X.env.cells scope.names [])) fp
  have pt := ht s3 (upd H2 D (.dT [])) s3.heap.objs.size (cellsFrom (s3.heap.objs.size + 1) scope.names (cloFrom X.env.cells scope.names [])) fp
  have pk := hk s3 (upd H2 D (.dT [])) s3.heap.objs.size (cellsFrom (s3.heap.objs.size + 1) scope.names (cloFrom X.env.cells scope.names [])) fp
  have pv := he s3 (upd H2 D (.dT [])) s3.heap.objs.size (cellsFrom (s3.heap.objs.size + 1) scope.names (cloFrom X.env.cells scope.names [])) fp
  rw [← hce, ← hs4] at I4
  rw [← hce] at pg pt pk pv
  have loc : ce.locals = s3.heap.objs.size := by rw [hce]; rfl
  have st4 : tn 0 s4.heap := T.keep _ _ _ st3 fun b _ o e => by rw [hs4]; exact pushCells_keeps _ _ _ _ (Heap.get?_push_of_some _ e)
  have loop : codeAny (model X.prog X.w) X.A (.compLoop (.DictComp kx vx [⟨tg, iter, ifs, 0⟩] scope pos) 0 (.ref it) (.ref D) ce) (compPost (model X.prog X.w) X.A X.xe none (EP X pins σ Q) (.ref D) ce.locals) s4 := by
    refine dcT_turns (Y := X.blk s3 (upd H2 D (.dT [])) scope ce fp) hu hc rfl T pg pt pk pv (fun I' n b hb => ⟨n b hb, (I'.ok.exf b hb).1, I'.ok.exfs b hb, .inl hb, fun x c e => (I'.ok.exf b hb).2 x c e, fun p hp => absurd (show p ∈ ([] : List (Addr × Obj)) ++ [] from hp) (by simp)⟩) turn (fun s' H' I' fin => ?_) w0 I4 st4 fun b hb => (f3 b hb).1.1
    -- back in the def
    have I7 : Inv X pins σ H' s' := I3.call' (ch := fp) I'.os I'.base I'.hok I'.bare fun b hb => ⟨(f3 b hb).1.2.2.2.1, (f3 b hb).1.2.1, (f3 b hb).1.2.2.2.2.1, (f3 b hb).1.2.2.2.2.2⟩
    have nC : H' s3.heap.objs.size = none := by
      have z : H' ce.locals = none := I'.free
      rwa [loc] at z
    obtain ⟨m, hn, _⟩ := I'.loc
    refine ⟨m, hn, fun h'' sb => ?_⟩
    rw [loc] at sb
    obtain ⟨g0, g1, g2, g3, g4, g5⟩ := I3.fpOk (Nat.le_refl _) nC
    exact ⟨.ref D, H', I7.turned (t' := s'.toks) (fun b o hb e => (sb.2 b hb).trans e) g0 g1 g3 g4 g5, rfl, fin⟩
  have start := codeAny_compStart_dict loop (T.self X.A 0 _ _ _ st4 loop)
  rw [hce, hs4, hs3, hD] at start
  exact start
end
end QD

/-! QD67: such a comprehension by data: an own dict. -/
namespace QD
open PySem L2 PyProof.Rows PySem.Spec
theorem dct_it {J : It} {n : Nat} {G : Hp → Prop} {Y : Nat → Hp → V → Hp → Prop} (w : Walk J n G Y) {g : TG} {tt : TT} {tk tv : TE} {vs : List Nat} {σ : L2.St} {H1 : Hp} {D : Addr} {Fin : Hp → Prop} (Pv : Nat → Hp → Prop) (h0 : Pv 0 (upd H1 D (.dT []))) (hG : ∀ i H, i ≤ n → Pv i H → G H)
    (hs : ∀ i x Ha Hb, i < n → Pv i Ha → Y i Ha x Hb → g x (wipe σ vs) Hb fun σ' Hc => wipe σ' vs = wipe σ vs ∧ tt σ' Hc fun b Hd => if b = true then tk σ' Hd fun y He => tv σ' He fun u Hf => ∃ Hg, DPut Hf D y u Hg ∧ Pv (i + 1) Hg else Pv (i + 1) Hd) (hd : ∀ H, Pv n H → Fin H) :
    ∃ W : Nat → Nat → Hp → Prop, (∃ m, W 0 m (upd H1 D (.dT []))) ∧ ∀ i m Ha, W i m Ha → (J.stop i Ha ∧ Fin Ha) ∨ (J.go i Ha ∧ ∃ N : Hp → Prop, (∀ Hb, N Hb → ∃ m', m' < m ∧ W (i + 1) m' Hb) ∧ ∀ x Hb, J.yld i Ha x Hb → g x (wipe σ vs) Hb fun σ' Hc => wipe σ' vs = wipe σ vs ∧ tt σ' Hc fun b Hd => if b = true then tk σ' Hd fun y He => tv σ' He fun u Hf => ∃ Hg, DPut Hf D y u Hg ∧ N Hg else N Hd) := by
  refine ⟨fun i m H => (m = n - i ∧ i ≤ n) ∧ Pv i H, ⟨n, ⟨by omega, Nat.zero_le _⟩, h0⟩, fun i m H hw => ?_⟩
  obtain ⟨⟨rfl, le⟩, p⟩ := hw
  rcases Nat.lt_or_ge i n with lt | ge
  · exact .inr ⟨w.goes i H lt (hG i H le p), Pv (i + 1), fun H' p' => ⟨n - (i + 1), by omega, ⟨rfl, lt⟩, p'⟩, fun x H' y => hs i x H H' lt p (w.yields i H x H' lt (hG i H le p) y)⟩
  · obtain rfl : i = n := by omega
    exact .inl ⟨w.stops H (hG _ H le p), hd H p⟩
abbrev DNT := DEnv → (List (List L2.Key × D) → Prop) → Prop
def SimNT (K : PySem.W.Frag) (c : Fm) (H0 : Hp) (te : TE) (dn : DNT) : Prop := ∀ ρ P, dn ρ P → ∀ O σ H Q, Rep K c H0 O H σ ρ → (∀ p gs kvs H', P kvs → Rep K c H0 (p :: O) H' σ ρ → (∀ (i : Nat) (es : D), ρ[i]? = some (some (Ent.own es)) → σ[i]? ≠ some (some (.ref p))) → H' p = some (.dT gs) → RT K (but H' (c.M ++ p :: O)) kvs gs →
  Grow (but H (c.M ++ O)) (but H' (c.M ++ p :: O)) → Ex c.S H H' → p ∉ O → Q (.ref p) H') → te σ H Q
/-- y = (a new dict), own from here on -/
def dAsgT (dn : DNT) (i : Nat) : DS := fun Dd ρ => dn ρ fun kvs => Dd.nx (ρ.set i (some (Ent.own (.dt kvs))))
def dcGo (dg : DG) (dt : DT) (dk : DA) (de : DE) (vs : List Nat) (ρ : DEnv) : List (List L2.Key × D) → List D → (List (List L2.Key × D) → Prop) → Prop
  | acc, [], P => P acc
  | acc, x :: xs, P => dg x (dwipe ρ vs) fun ρ2 => dt ρ2 fun k => if k = true then dk ρ2 fun ks _ => ks.length ≤ sizeLine ∧ optP (keyT ks) fun key => de ρ2 fun d b => b = false ∧ acc.length < sizeLine ∧ dcGo dg dt dk de vs ρ (putT acc key d) xs P else dcGo dg dt dk de vs ρ acc xs P
def dnDcT (di : DI) (dg : DG) (dt : DT) (dk : DA) (de : DE) (vs : List Nat) : DNT := fun ρ P => di ρ fun xs => dcGo dg dt dk de vs ρ [] xs P
section
variable {K : PySem.W.Frag} {c : Fm} {H0 : Hp} {te : TE} {de : DE} {t : TA} {dk : DA}
theorem sim_asgT {dn : DNT} {i : Nat} (h : SimNT K c H0 te dn) : SimS K c H0 (tAsg te (gName i)) (dAsgT dn i) := by
  intro Dd ρ hd O σ H Dn F rp g RR
  exact h ρ _ hd O σ H _ rp fun p gs kvs H' hn rp' hno hx ra gr _ _ => RR.nx _ (p :: O) _ H' hn (rp'.setOwn i List.mem_cons_self hx ⟨gs, rfl, ra⟩ fun j es _ => hno j es) (g.trans gr)
theorem sn_dcT {wi : TI} {di : DI} {g : TG} {dg : DG} {tt : TT} {dt : DT} {vs : List Nat} (hi : SimI K c H0 wi di) (hg : SimGn K c H0 g dg vs) (ht : SimT K c H0 tt dt) (hk : SimA K c H0 t dk) (he : SimE K c H0 te de) : SimNT K c H0 (tDcT wi g tt (tTup t) te vs) (dnDcT di dg dt dk de vs) := by
  intro ρ P h O σ H Q rp q
  refine hi ρ _ h O σ H _ rp fun J xs H1 h1 rp1 e1 w => ?_
  intro D hD
  obtain ⟨G, Y, wk, hG, hY⟩ := w
  have rpD := rp1.more (o := HO.dT []) hD
  have hnM := rp1.new hD
  have hno := rp1.own_ne hD
  have gD : Grow (but H1 (c.M ++ O)) (but (upd H1 D (.dT [])) (c.M ++ D :: O)) := grow_new hD
  refine dct_it wk (fun i H2 => ∃ av ad, Rep K c H0 (D :: O) H2 σ ρ ∧ H2 D = some (.dT av) ∧ RT K (but H2 (c.M ++ D :: O)) ad av ∧ Ex c.S H1 H2 ∧ Grow (but H1 (c.M ++ O)) (but H2 (c.M ++ D :: O)) ∧ dcGo dg dt dk de vs ρ ad (xs.drop i) P)
    ⟨[], [], rpD, upd_same, rfl, Ex.new hD, gD, h1⟩ (fun i H2 _ ⟨av, ad, _, _, _, _, gg, _⟩ => hG H2 (gg.trans but_grow)) (fun i x H2 H3 hlt ⟨av, ad, rp2, hD2, ra2, ex2, g2, lg⟩ y => ?_) fun H2 ⟨av, ad, rp2, hD2, ra2, ex2, g2, lg⟩ => ?_
  · rw [drop_cons_of hlt] at lg
    obtain ⟨gr3, rp3, rx3⟩ := (hY i H2 x H3 _ (List.getElem?_eq_getElem hlt) y).rep rp2 g2
    have hD3 := gr3 _ _ hD2
    have ra3 : RT K (but H3 (c.M ++ D :: O)) ad av := RT.grow (Ex.but (S := []) (Ex.of gr3) (fun a z => by simp at z)) _ _ ra2
    have g3 : Grow (but H1 (c.M ++ O)) (but H3 (c.M ++ D :: O)) := g2.trans (Ex.but (S := []) (Ex.of gr3) (fun a z => by simp at z))
    have rpw := rp3.wipe vs
    refine hg xs[i] _ _ lg x (D :: O) (wipe σ vs) H3 _ rpw rx3 fun ρ2 σ2 lg2 rp4 hl4 same4 => ?_
    refine ⟨?_, ?_⟩
    · have e1 : wipe σ2 vs = wipe (wipe σ vs) vs := wipe_ext hl4 fun k hk => (same4 k hk).1
      rw [e1]
      exact wipe_ext (wipe_len σ vs) fun k hk => wipe_get σ hk
    · refine ht ρ2 _ lg2 (D :: O) σ2 H3 _ rp4 fun k H4 lg4 rp5 e5 => ?_
      have hDS : D ∉ c.S := rp2.notS List.mem_cons_self
      cases k with
      | false =>
        exact ⟨av, ad, rp3.up e5 rp5.inv, e5 _ _ hD3 hDS, RT.grow (e5.but fun a z => List.mem_append_left _ (c.sub a z)) _ _ ra3, (ex2.trans (Ex.of gr3)).trans e5, g3.ex e5, lg4⟩
      | true =>
        have lg4 : dk ρ2 fun ks _ => ks.length ≤ sizeLine ∧ optP (keyT ks) fun key => de ρ2 fun d b => b = false ∧ ad.length < sizeLine ∧ dcGo dg dt dk de vs ρ (putT ad key d) (xs.drop (i + 1)) P := lg4
        rw [if_pos rfl]
        refine hk ρ2 _ lg4 (D :: O) σ2 H4 _ rp5 fun kv ks bk H5 lg5 rp6 e6 rk => ?_
        obtain ⟨hz, lg5⟩ := lg5
        obtain ⟨key, ek, lg6⟩ := optP_some lg5
        have ekv := keyT_eq ek rk.here
        refine ⟨by rw [rk.len]; exact hz, fun z hz' => ?_⟩
        have e7 : Ex c.S H5 (upd H5 z (.tup kv)) := Ex.new hz'
        have nz := rp6.new hz'
        have rp7 := rp6.up e7 (c.st _ _ (Grow.new hz') rp6.inv)
        refine he ρ2 _ lg6 (D :: O) σ2 _ _ rp7 fun y d b H8 lg8 rp8 e8 ry => ?_
        obtain ⟨hb, hsz, lg9⟩ := lg8
        subst hb
        have e58 := ((e5.trans e6).trans e7).trans e8
        have hD8 := e58 _ _ hD3 hDS
        have hz8 : H8 z = some (.tup (key.map kV)) := by
          rw [← ekv]
          exact e8 _ _ upd_same fun zs => nz (List.mem_append_left _ (c.sub z zs))
        have ra8 : RT K (but H8 (c.M ++ D :: O)) ad av := RT.grow (e58.but fun a z => List.mem_append_left _ (c.sub a z)) _ _ ra3
        refine ⟨upd H8 D (.dT (putK av key y)), .inr ⟨av, key, z, hD8, rfl, hz8, by rw [RT.len ra8]; exact hsz, rfl⟩, putK av key y, putT ad key d, (rp3.up e58 rp8.inv).store List.mem_cons_self _ hno, upd_same, ?_, ?_, ?_, lg9⟩
        · refine RT.grow (fun a u e => ?_) _ _ (RT.put (k := key) ra8 ry)
          obtain ⟨n, e⟩ := but_some e
          have hne : a ≠ D := fun z => n (List.mem_append_right _ (z ▸ List.mem_cons_self))
          exact but_of n (by rw [upd_ne hne]; exact e)
        · intro a u e n
          have hne : a ≠ D := ne_of_none e hD
          rw [upd_ne hne]
          exact ((ex2.trans (Ex.of gr3)).trans e58) a u e n
        · refine (g3.ex e58).trans fun a u e => ?_
          obtain ⟨n, e⟩ := but_some e
          have hne : a ≠ D := fun z => n (List.mem_append_right _ (z ▸ List.mem_cons_self))
          exact but_of n (by rw [upd_ne hne]; exact e)
  · rw [List.drop_length] at lg
    exact q D av ad H2 lg rp2 hno hD2 ra2 ((e1.but fun a z => List.mem_append_left _ (c.sub a z)).trans g2) (e1.trans ex2) fun z => hnM (List.mem_append_right _ z)
theorem go_asgT {dn : DNT} {i : Nat} {Dd : DEnds} {ρ : DEnv} : Go (dAsgT dn i Dd ρ) = Go (dn ρ fun kvs => Dd.nx (ρ.set i (some (Ent.own (.dt kvs))))) := (rfl)
theorem go_dcT {di : DI} {dg : DG} {dt : DT} {vs : List Nat} {ρ : DEnv} {P : List (List L2.Key × D) → Prop} : Go (dnDcT di dg dt dk de vs ρ P) = Go (di ρ fun xs => dcGo dg dt dk de vs ρ [] xs P) := (rfl)
end
end QD

/-! QD68: list(d), d a dict with tuples as keys. -/
namespace QD
open PySem L2 PyProof.Rows PySem.Spec
def keyDat : L2.Key → D
  | .inl i => .int i
  | .inr x => .str x
def keysD (kvs : List (List L2.Key × D)) : List D := kvs.map fun p => .tup (p.1.map keyDat)
theorem key_RA {K : PySem.W.Frag} {H : Hp} : ∀ k : List L2.Key, RA K H (k.map keyDat) (k.map kV)
  | [] => rfl
  | a :: k => by
    refine ⟨kV a, k.map kV, rfl, ?_, key_RA k⟩
    cases a <;> rfl
def rListDT : List V → Hp → VK → Prop := fun xs H Q => ∃ d kvs, xs = [V.ref d] ∧ Rd H d (.dT kvs) ∧ ∀ p bs, H p = none → IsKeys H kvs bs → Q (.ref p) (upd H p (.lst (bs.map V.ref)))
def rListX (K : PySem.W.Frag) : List V → Hp → VK → Prop := fun xs H Q => rListAny K xs H Q ∨ rListDT xs H Q
theorem q_listX {X : Cx} (hc : X.calm = true) : CallR X (.type "list") (rListX X.K) := CallR.or (q_listAny hc) (call_list_dT hc)
def dListX : DC
  | [.dt kvs], P => P (.lst (keysD kvs))
  | xs, P => dListAny xs P
theorem keys_RA {K : PySem.W.Frag} {H : Hp} {M : List Addr} (nm : ∀ a, a ∈ M → KdAt H a) : ∀ {kvs : List (List L2.Key × D)} {gs : List (List L2.Key × V)} {bs : List Addr}, RT K (but H M) kvs gs → IsKeys H gs bs → RA K (but H M) (keysD kvs) (bs.map V.ref)
  | [], gs, bs, h, k => by
    rw [show gs = [] from h] at k
    cases k
    rfl
  | f :: kvs, gs, bs, h, k => by
    obtain ⟨v, r, rfl, _, h2⟩ := h
    cases k with
    | cons e t =>
      rename_i b bs
      have nb : b ∉ M := fun z => by
        obtain ⟨o, e1, e2⟩ := nm b z
        have e : H b = some (.tup (f.1.map kV)) := e
        rw [e] at e1
        cases e1
        cases e2
      exact ⟨.ref b, bs.map V.ref, rfl, ⟨b, f.1.map kV, rfl, .inl (.inl (but_of nb e)), key_RA f.1⟩, keys_RA nm h2 t⟩
section
variable {K : PySem.W.Frag} {c : Fm} {H0 : Hp}
theorem sc_listX : SimC K c H0 (rListX K) dListX := by
  intro xs P h O H Q vs b σ ρ rp rx q
  unfold dListX at h
  split at h
  · rename_i kvs
    obtain ⟨v, r, rfl, ⟨a, gs, rfl, h1, h2⟩, h3⟩ := id rx
    rw [show r = [] from h3]
    refine .inr ⟨a, gs, rfl, h1.elim (fun y => .inl (but_some y).2) (fun ⟨o, y⟩ => .inr ⟨o, (but_some y).2⟩), fun p bs hp hk => ?_⟩
    have nm : ∀ a, a ∈ (if b then c.M else c.M ++ O) → KdAt H a := fun a ha => by
      rcases List.mem_append.mp (mo_of ha) with z | z
      · exact c.kd H rp.inv a z
      · exact rp.liv a z
    obtain ⟨z1, z2, z3⟩ := sr_new (b := b) rp hp (show RBA K c O H b (keysD kvs) (bs.map V.ref) from keys_RA nm h2 hk)
    exact q _ _ _ h z1 z2 z3
  · exact .inl (sc_listAny (K := K) (c := c) (H0 := H0) _ P h O H Q vs b σ ρ rp rx q)
end
theorem go_lxd {kvs : List (List L2.Key × D)} {Pd : D → Prop} : Go (dListX [.dt kvs] Pd) = Go (Pd (.lst (keysD kvs))) := (rfl)
theorem go_lxl {xs : List D} {Pd : D → Prop} : Go (dListX [.lst xs] Pd) = Go (Pd (.lst xs)) := (rfl)
theorem go_lxt {xs : List D} {Pd : D → Prop} : Go (dListX [.tup xs] Pd) = Go (Pd (.lst xs)) := (rfl)
theorem go_lxs {x : Str} {Pd : D → Prop} : Go (dListX [.str x] Pd) = Go (x.length ≤ sizeLine ∧ Pd (.lst (signsD x))) := (rfl)
end QD

/-! QD69: a dict that is frozen stays what it is. -/
namespace QD
open PySem L2 PyProof.Rows PySem.Spec
/-- a dict, told -/
def isDt : HO → Bool
  | .dK _ => true
  | .dT _ => true
  | _ => false
/-- frozen, or not: a dict in any case -/
def notDt : HO → Bool
  | .dK _ => false
  | .dT _ => false
  | .frz _ u => !isDt u
  | _ => true
/-- H', where some dicts are frozen, or free again -/
def Lk (H H' : Hp) : Prop := ∀ a u, H a = some u → H' a = some u ∨ (isDt u = true ∧ ∃ o, H' a = some (.frz o u)) ∨ ∃ o g, u = .frz o g ∧ isDt g = true ∧ H' a = some g
theorem Lk.at {H H' : Hp} (l : Lk H H') {a : Addr} {u : HO} (h : H a = some u) (n : notDt u = true) : H' a = some u := by
  rcases l a u h with z | ⟨z, _⟩ | ⟨o, g, rfl, z, _⟩
  · exact z
  · cases u <;> first | (cases n; done) | (cases z; done)
  · exact absurd n (by simp [notDt, z])
theorem Lk.rd {H H' : Hp} (l : Lk H H') {a : Addr} {u : HO} (h : Rd H a u) (hu : isDt u = true) : Rd H' a u := by
  rcases h with h | ⟨o, h⟩
  · rcases l a u h with z | ⟨_, o, z⟩ | ⟨o, g, rfl, _, _⟩
    · exact .inl z
    · exact .inr ⟨o, z⟩
    · cases hu
  · rcases l a _ h with z | ⟨z, _⟩ | ⟨o', g, e, _, z⟩
    · exact .inr ⟨o, z⟩
    · cases z
    · injection e with e1 e2
      subst e2
      exact .inl z
theorem Lk.sqt {K : PySem.W.Frag} {H H' : Hp} (l : Lk H H') {a : Addr} {xs : List V} (h : SqT K H a xs) : SqT K H' a xs := by
  rcases h with (h | ⟨o, h⟩) | h
  · exact .inl (.inl (l.at h rfl))
  · exact .inl (.inr ⟨o, l.at h rfl⟩)
  · exact .inr h
theorem Lk.but {H H' : Hp} {M : List Addr} (l : Lk H H') : Lk (but H M) (but H' M) := fun a u e => by
  obtain ⟨n, e⟩ := but_some e
  rcases l a u e with z | ⟨y, o, z⟩ | ⟨o, g, y, k, z⟩
  · exact .inl (but_of n z)
  · exact .inr (.inl ⟨y, o, but_of n z⟩)
  · exact .inr (.inr ⟨o, g, y, k, but_of n z⟩)
theorem Lk.upd {H : Hp} {d : Addr} {g : List (List L2.Key × V)} {o : Obj} (h : H d = some (.dT g)) : Lk H (L2.upd H d (.frz o (.dT g))) := fun a u e => by
  by_cases z : a = d
  · subst z
    rw [h] at e
    cases e
    exact .inr (.inl ⟨rfl, o, upd_same⟩)
  · exact .inl (by rw [upd_ne z]; exact e)
theorem Lk.free {H : Hp} {d : Addr} {g : List (List L2.Key × V)} {o : Obj} (h : H d = some (.frz o (.dT g))) : Lk H (L2.upd H d (.dT g)) := fun a u e => by
  by_cases z : a = d
  · subst z
    rw [h] at e
    cases e
    exact .inr (.inr ⟨o, _, rfl, rfl, upd_same⟩)
  · exact .inl (by rw [upd_ne z]; exact e)
theorem Lk.pin {H H' : Hp} (l : Lk H H') {a : Addr} {x : Obj} (h : H a = some (pinO x)) : H' a = some (pinO x) := l.at h rfl
theorem Lk.lam {H H' : Hp} (l : Lk H H') {L : LamD} {f : Addr} (h : LamAt H L f) : LamAt H' L f := by
  obtain ⟨doc, pm, c', ct, dV, h1, h2, h3⟩ := h
  refine ⟨doc, pm, c', ct, dV, l.pin h1, ?_, ?_⟩
  · obtain ⟨oc, vs, t, e, r⟩ := h2
    exact ⟨oc, vs, t, l.pin e, r⟩
  · unfold DflAt at h3 ⊢
    split at h3
    · exact h3
    · obtain ⟨t, e, k⟩ := h3
      exact ⟨t, e, l.at k rfl⟩
section
variable {K : PySem.W.Frag} {H H' : Hp}
mutual
theorem R.lk (l : Lk H H') : ∀ (d : D) (v : V), R K H d v → R K H' d v
  | .non, _, h => h
  | .bl _, _, h => h
  | .int _, _, h => h
  | .str _, _, h => h
  | .raw _, _, h => h
  | .lst ds, v, h => by
    obtain ⟨a, xs, e1, h1, h2⟩ := h
    exact ⟨a, xs, e1, l.at h1 rfl, RA.lk l ds xs h2⟩
  | .tup ds, v, h => by
    obtain ⟨a, xs, e1, h1, h2⟩ := h
    exact ⟨a, xs, e1, l.sqt h1, RA.lk l ds xs h2⟩
  | .ins C fs, v, h => by
    obtain ⟨a, dx, gs, e1, h1, h2⟩ := h
    exact ⟨a, dx, gs, e1, l.at h1 rfl, RF.lk l fs gs h2⟩
  | .lam L, v, h => by
    obtain ⟨f, e1, h1⟩ := h
    exact ⟨f, e1, l.lam h1⟩
  | .dk kvs, v, h => by
    obtain ⟨a, gs, e1, h1, h2⟩ := h
    exact ⟨a, gs, e1, l.rd h1 rfl, RK.lk l kvs gs h2⟩
  | .dt kvs, v, h => by
    obtain ⟨a, gs, e1, h1, h2⟩ := h
    exact ⟨a, gs, e1, l.rd h1 rfl, RT.lk l kvs gs h2⟩
theorem RA.lk (l : Lk H H') : ∀ (ds : List D) (vs : List V), RA K H ds vs → RA K H' ds vs
  | [], _, h => h
  | d :: ds, vs, h => by
    obtain ⟨v, r, e1, h1, h2⟩ := h
    exact ⟨v, r, e1, R.lk l d v h1, RA.lk l ds r h2⟩
theorem RF.lk (l : Lk H H') : ∀ (fs : List (Str × D)) (gs : List (Str × V)), RF K H fs gs → RF K H' fs gs
  | [], _, h => h
  | f :: fs, gs, h => by
    obtain ⟨v, r, e1, h1, h2⟩ := h
    exact ⟨v, r, e1, R.lk l f.2 v h1, RF.lk l fs r h2⟩
theorem RK.lk (l : Lk H H') : ∀ (fs : List (L2.Key × D)) (gs : List (L2.Key × V)), RK K H fs gs → RK K H' fs gs
  | [], _, h => h
  | f :: fs, gs, h => by
    obtain ⟨v, r, e1, h1, h2⟩ := h
    exact ⟨v, r, e1, R.lk l f.2 v h1, RK.lk l fs r h2⟩
theorem RT.lk (l : Lk H H') : ∀ (fs : List (List L2.Key × D)) (gs : List (List L2.Key × V)), RT K H fs gs → RT K H' fs gs
  | [], _, h => h
  | f :: fs, gs, h => by
    obtain ⟨v, r, e1, h1, h2⟩ := h
    exact ⟨v, r, e1, R.lk l f.2 v h1, RT.lk l fs r h2⟩
end
end
end QD

/-! QD70: the frame while a dict is frozen. -/
namespace QD
open PySem L2 PyProof.Rows PySem.Spec
theorem upd_grow {H H' : Hp} {d : Addr} {u : HO} (g : Grow H H') : Grow (upd H d u) (upd H' d u) := fun a o e => by
  by_cases z : a = d
  · subst z
    rw [upd_same] at e ⊢
    exact e
  · rw [upd_ne z] at e ⊢
    exact g _ _ e
theorem bag_upd {M : List Addr} {H : Hp} {d : Addr} {gs : List (List L2.Key × V)} {od : Obj} {b : Addr × Addr} (h : H d = some (.frz od (.dT gs))) : BagAt M (upd H d (.dT gs)) b ↔ BagAt M H b := by
  constructor
  · rintro ⟨ns, i1, i2, i3, i4, h1, h2, h3⟩
    obtain ⟨q1, q2⟩ := but_some h2
    have n1 : b.1 ≠ d := fun z => by rw [z, upd_same] at h1; cases h1
    have n2 : b.2 ≠ d := fun z => by rw [z, upd_same] at q2; cases q2
    rw [upd_ne n1] at h1
    rw [upd_ne n2] at q2
    exact ⟨ns, i1, i2, i3, i4, h1, but_of q1 q2, h3⟩
  · rintro ⟨ns, i1, i2, i3, i4, h1, h2, h3⟩
    obtain ⟨q1, q2⟩ := but_some h2
    have n1 : b.1 ≠ d := fun z => by rw [z, h] at h1; cases h1
    have n2 : b.2 ≠ d := fun z => by rw [z, h] at q2; cases q2
    exact ⟨ns, i1, i2, i3, i4, by rw [upd_ne n1]; exact h1, but_of q1 (by rw [upd_ne n2]; exact q2), h3⟩
def Fm.locked (c : Fm) (d : Addr) (gs : List (List L2.Key × V)) (od : Obj) (hd : d ∉ c.M) : Fm where
  M := c.M
  S := c.S
  I := fun H => H d = some (.frz od (.dT gs)) ∧ c.I (upd H d (.dT gs))
  bag := c.bag
  me := c.me
  sub := c.sub
  st := fun H H' g h => ⟨g _ _ h.1, c.st _ _ (upd_grow g) h.2⟩
  sd := fun H h a ha fs e => by
    have n : a ≠ d := fun z => hd (z ▸ c.sub a ha)
    exact c.sd _ h.2 a ha fs (by rw [upd_ne n]; exact e)
  kd := fun H h a ha => by
    have n : a ≠ d := fun z => hd (z ▸ ha)
    exact (c.kd _ h.2 a ha).keep fun o e => by rwa [upd_ne n] at e
  bS := c.bS
  bI := fun b e H h => (bag_upd h.1).mp (c.bI b e _ h.2)
  bP := fun b e H H' h k z => by
    have n : d ≠ b.1 := fun q => hd (q ▸ c.sub _ (c.bS b e))
    have h1 := k d _ h.1 n
    refine ⟨h1, c.bP b e _ _ h.2 (fun a o q ne => ?_) ((bag_upd h1).mpr z)⟩
    by_cases y : a = d
    · subst y
      rw [upd_same] at q ⊢
      exact q
    · rw [upd_ne y] at q ⊢
      exact k a o q ne
  mu := fun H H' p h k n m f => by
    have np : d ≠ p := fun z => f _ _ (z ▸ h.1)
    refine ⟨k d _ h.1 np, c.mu _ _ p h.2 (fun a o q ne => ?_) n m fun o v q => ?_⟩
    · by_cases y : a = d
      · subst y
        rw [upd_same] at q ⊢
        exact q
      · rw [upd_ne y] at q ⊢
        exact k a o q ne
    · rw [upd_ne np.symm] at q
      exact f o v q
end QD

/-! QD71: the slots while a dict is frozen. -/
namespace QD
open PySem L2 PyProof.Rows PySem.Spec
section
variable {K : PySem.W.Frag} {c : Fm} {H0 H : Hp} {O : List Addr} {σ : L2.St} {ρ : DEnv} {d : Addr} {gs : List (List L2.Key × V)} {od : Obj}
theorem OwnR.lk {H H' : Hp} (l : Lk H H') : ∀ {e : D} {o : HO}, OwnR K H e o → OwnR K H' e o
  | .lst _, _, ⟨xs, e, h⟩ => ⟨xs, e, RA.lk l _ _ h⟩
  | .ins _ _, _, ⟨dx, gs, e, h⟩ => ⟨dx, gs, e, RF.lk l _ _ h⟩
  | .dk _, _, ⟨gs, e, h⟩ => ⟨gs, e, RK.lk l _ _ h⟩
  | .dt _, _, ⟨gs, e, h⟩ => ⟨gs, e, RT.lk l _ _ h⟩
  | .non, _, h => h.elim
  | .bl _, _, h => h.elim
  | .int _, _, h => h.elim
  | .str _, _, h => h.elim
  | .tup _, _, h => h.elim
  | .raw _, _, h => h.elim
  | .lam _, _, h => h.elim
theorem upd_back (h : H d = some (.dT gs)) : upd (upd H d (.frz od (.dT gs))) d (.dT gs) = H := funext fun a => by
  by_cases z : a = d
  · subst z
    rw [upd_same, h]
  · rw [upd_ne z, upd_ne z]
theorem Rep.lock (r : Rep K c H0 O H σ ρ) (h : H d = some (.dT gs)) (nM : d ∉ c.M) (nO : d ∉ O) : Rep K (c.locked d gs od nM) (upd H0 d (.frz od (.dT gs))) O (upd H d (.frz od (.dT gs))) σ ρ := by
  have l := Lk.upd (o := od) h
  refine { inv0 := ⟨upd_same, ?_⟩, inv := ⟨upd_same, ?_⟩, ent := fun a o e n => ?_, fresh := fun a ha => ?_, liv := fun a ha => ?_, len := r.len, val := fun i e q => ?_, own := fun i e q => ?_, sep := r.sep, me := r.me }
  · have e0 : upd (upd H0 d (.frz od (.dT gs))) d (.dT gs) = upd H0 d (.dT gs) := funext fun a => by
      by_cases z : a = d
      · subst z; rw [upd_same, upd_same]
      · rw [upd_ne z, upd_ne z, upd_ne z]
    rw [e0]
    clear e0
    refine c.st H0 _ (fun a o e => ?_) r.inv0
    by_cases z : a = d
    · subst z
      have := r.ent a o e fun q => nM (c.sub a q)
      rw [h] at this
      rw [upd_same]
      exact this
    · rw [upd_ne z]; exact e
  · rw [upd_back h]
    exact r.inv
  · by_cases z : a = d
    · subst z
      rw [upd_same] at e ⊢
      exact e
    · rw [upd_ne z] at e ⊢
      exact r.ent a o e n
  · have z : a ≠ d := fun z => nO (z ▸ ha)
    rw [upd_ne z]
    exact r.fresh a ha
  · have z : a ≠ d := fun z => nO (z ▸ ha)
    exact (r.liv a ha).keep fun o e => by rw [upd_ne z]; exact e
  · obtain ⟨v, h1, h2⟩ := r.val i e q
    exact ⟨v, h1, R.lk l.but e v h2⟩
  · obtain ⟨p, o, h1, h2, h3, h4⟩ := r.own i e q
    have z : p ≠ d := fun z => nO (z ▸ h2)
    exact ⟨p, o, h1, h2, by rw [upd_ne z]; exact h3, OwnR.lk l.but h4⟩
theorem Rep.unlock {H' : Hp} {nM : d ∉ c.M} (r0 : Rep K c H0 O H σ ρ) (h : H d = some (.dT gs)) (nO : d ∉ O) (r : Rep K (c.locked d gs od nM) (upd H0 d (.frz od (.dT gs))) O H' σ ρ) : Rep K c H0 O (upd H' d (.dT gs)) σ ρ ∧ H' d = some (.frz od (.dT gs)) := by
  have hd := r.inv.1
  have l := Lk.free (o := od) hd
  refine ⟨{ inv0 := r0.inv0, inv := r.inv.2, ent := fun a o e n => ?_, fresh := r0.fresh, liv := fun a ha => ?_, len := r.len, val := fun i e q => ?_, own := fun i e q => ?_, sep := r.sep, me := r.me }, hd⟩
  · by_cases z : a = d
    · subst z
      have := r0.ent a o e n
      rw [h] at this
      rw [upd_same]
      exact this
    · rw [upd_ne z]
      refine r.ent a o ?_ n
      rw [upd_ne z]
      exact e
  · have z : a ≠ d := fun z => nO (z ▸ ha)
    exact (r.liv a ha).keep fun o e => by rw [upd_ne z]; exact e
  · obtain ⟨v, h1, h2⟩ := r.val i e q
    exact ⟨v, h1, R.lk l.but e v h2⟩
  · obtain ⟨p, o, h1, h2, h3, h4⟩ := r.own i e q
    have z : p ≠ d := fun z => nO (z ▸ h2)
    exact ⟨p, o, h1, h2, by rw [upd_ne z]; exact h3, OwnR.lk l.but h4⟩
end
end QD

/-! QD72: [.. for .. in self.f if ..], self.f a dict with tuples as keys. -/
namespace QD
open PySem L2 PyProof.Rows PySem.Spec
/-- one turn: an item as it lies, a new pair, or a key's own tuple -/
def YldT (K : PySem.W.Frag) (F H : Hp) (x : V) (H' : Hp) (d : D) : Prop := Yld K F H x H' d ∨ (H' = H ∧ ∃ (q : Addr) (k : List L2.Key), x = .ref q ∧ d = .tup (k.map keyDat) ∧ H q = some (.tup (k.map kV)))
def WalkT (K : PySem.W.Frag) (F : Hp) (J : It) (xs : List D) : Prop := ∃ (G : Hp → Prop) (Y : Nat → Hp → V → Hp → Prop), Walk J xs.length G Y ∧ (∀ H, Grow F H → G H) ∧ ∀ i H x H' d, xs[i]? = some d → Y i H x H' → YldT K F H x H' d
section
variable {K : PySem.W.Frag} {c : Fm} {H0 : Hp} {ta tb te : TE} {da db de : DE}
theorem YldT.rep {F H : Hp} {x : V} {H' : Hp} {d : D} {O : List Addr} {σ : L2.St} {ρ : DEnv} (y : YldT K F H x H' d) (rp : Rep K c H0 O H σ ρ) (g : Grow F (but H (c.M ++ O))) : Grow H H' ∧ Rep K c H0 O H' σ ρ ∧ R K (but H' (c.M ++ O)) d x := by
  rcases y with y | ⟨rfl, q, k, rfl, rfl, e⟩
  · exact y.rep rp g
  · have nq : q ∉ c.M ++ O := fun z => by
      have kd : KdAt H' q := (List.mem_append.mp z).elim (fun z => c.kd H' rp.inv q z) (fun z => rp.liv q z)
      obtain ⟨o, e1, e2⟩ := kd
      rw [e] at e1
      cases e1
      cases e2
    exact ⟨Grow.refl _, rp, q, k.map kV, rfl, .inl (.inl (but_of nq e)), key_RA k⟩
/-- a comprehension from where its iterator stands -/
theorem lc_tailN {g : TG} {dg : DG} {tt : TT} {dt : DT} {vs : List Nat} {ρ : DEnv} {P : List D → Prop} {O : List Addr} {σ : L2.St} {H H1 : Hp} {J : It} {xs : List D} {Q : VK} (hg : SimGn K c H0 g dg vs) (ht : SimT K c H0 tt dt) (he : SimE K c H0 te de)
    (rp1 : Rep K c H0 O H1 σ ρ) (e1 : Ex c.S H H1) (w : WalkT K (but H1 (c.M ++ O)) J xs) (h1 : lcGo dg dt de vs ρ [] xs P) (q : ∀ p xs ds H', P ds → Rep K c H0 (p :: O) H' σ ρ → (∀ (i : Nat) (es : D), ρ[i]? = some (some (Ent.own es)) → σ[i]? ≠ some (some (.ref p))) → H' p = some (.lst xs) → RA K (but H' (c.M ++ p :: O)) ds xs → Grow (but H1 (c.M ++ O)) (but H' (c.M ++ p :: O)) → Ex c.S H H' → H1 p = none → Q (.ref p) H') : tLc (fun _ _ R => R J H1) g tt te vs σ H1 Q := by
  intro D hD
  obtain ⟨G, Y, wk, hG, hY⟩ := w
  have rpD := rp1.more (o := HO.lst []) hD
  have hnM := rp1.new hD
  have hno := rp1.own_ne hD
  have gD : Grow (but H1 (c.M ++ O)) (but (upd H1 D (.lst [])) (c.M ++ D :: O)) := grow_new hD
  refine lc_it wk (fun i H2 => ∃ av ad, Rep K c H0 (D :: O) H2 σ ρ ∧ H2 D = some (.lst av) ∧ RA K (but H2 (c.M ++ D :: O)) ad av ∧ Ex c.S H1 H2 ∧ Grow (but H1 (c.M ++ O)) (but H2 (c.M ++ D :: O)) ∧ lcGo dg dt de vs ρ ad (xs.drop i) P)
    ⟨[], [], rpD, upd_same, rfl, Ex.new hD, gD, h1⟩ (fun i H2 _ ⟨av, ad, _, _, _, _, gg, _⟩ => hG H2 (gg.trans but_grow)) (fun i x H2 H3 hlt ⟨av, ad, rp2, hD2, ra2, ex2, g2, lg⟩ y => ?_) fun H2 ⟨av, ad, rp2, hD2, ra2, ex2, g2, lg⟩ => ?_
  · rw [drop_cons_of hlt] at lg
    obtain ⟨gr3, rp3, rx3⟩ := (hY i H2 x H3 _ (List.getElem?_eq_getElem hlt) y).rep rp2 g2
    have hD3 := gr3 _ _ hD2
    have ra3 : RA K (but H3 (c.M ++ D :: O)) ad av := RA.grow (Ex.but (S := []) (Ex.of gr3) (fun a z => by simp at z)) _ _ ra2
    have g3 : Grow (but H1 (c.M ++ O)) (but H3 (c.M ++ D :: O)) := g2.trans (Ex.but (S := []) (Ex.of gr3) (fun a z => by simp at z))
    have rpw := rp3.wipe vs
    refine hg xs[i] _ _ lg x (D :: O) (wipe σ vs) H3 _ rpw rx3 fun ρ2 σ2 lg2 rp4 hl4 same4 => ?_
    refine ⟨?_, ?_⟩
    · have e1 : wipe σ2 vs = wipe (wipe σ vs) vs := wipe_ext hl4 fun k hk => (same4 k hk).1
      rw [e1]
      exact wipe_ext (wipe_len σ vs) fun k hk => wipe_get σ hk
    · refine ht ρ2 _ lg2 (D :: O) σ2 H3 _ rp4 fun k H4 lg4 rp5 e5 => ?_
      have hDS : D ∉ c.S := rp2.notS List.mem_cons_self
      cases k with
      | false =>
        refine ⟨av, ad, rp3.up e5 rp5.inv, e5 _ _ hD3 hDS, RA.grow (e5.but fun a z => List.mem_append_left _ (c.sub a z)) _ _ ra3, (ex2.trans (Ex.of gr3)).trans e5, g3.ex e5, ?_⟩
        exact lg4
      | true =>
        have lg4 : de ρ2 fun d b => b = false ∧ ad.length < sizeLine ∧ lcGo dg dt de vs ρ (ad ++ [d]) (xs.drop (i + 1)) P := lg4
        show te σ2 H4 _
        refine he ρ2 _ lg4 (D :: O) σ2 H4 _ rp5 fun y d b H5 lg5 rp6 e6 ry => ?_
        obtain ⟨hb, hsz, lg6⟩ := lg5
        subst hb
        have e56 := e5.trans e6
        have hD5 := e56 _ _ hD3 hDS
        have ra5 : RA K (but H5 (c.M ++ D :: O)) ad av := RA.grow (e56.but fun a z => List.mem_append_left _ (c.sub a z)) _ _ ra3
        refine ⟨av, hD5, by rw [ra5.length]; exact hsz, av ++ [y], ad ++ [d], (rp3.up e56 rp6.inv).store List.mem_cons_self _ hno, upd_same, ?_, ?_, ?_, lg6⟩
        · refine RA.grow (fun a u e => ?_) _ _ (ra5.snoc ry)
          obtain ⟨n, e⟩ := but_some e
          have hne : a ≠ D := fun z => n (List.mem_append_right _ (z ▸ List.mem_cons_self))
          exact but_of n (by rw [upd_ne hne]; exact e)
        · intro a u e n
          have hne : a ≠ D := ne_of_none e hD
          rw [upd_ne hne]
          exact ((ex2.trans (Ex.of gr3)).trans e56) a u e n
        · refine (g3.ex e56).trans fun a u e => ?_
          obtain ⟨n, e⟩ := but_some e
          have hne : a ≠ D := fun z => n (List.mem_append_right _ (z ▸ List.mem_cons_self))
          exact but_of n (by rw [upd_ne hne]; exact e)
  · rw [List.drop_length] at lg
    exact q D av ad H2 lg rp2 hno hD2 ra2 g2 (e1.trans ex2) hD
theorem lc_tail {g : TG} {dg : DG} {tt : TT} {dt : DT} {vs : List Nat} {ρ : DEnv} {P : D → Bool → Prop} {O : List Addr} {σ : L2.St} {H H1 : Hp} {J : It} {xs : List D} {Q : VK} (hg : SimGn K c H0 g dg vs) (ht : SimT K c H0 tt dt) (he : SimE K c H0 te de)
    (rp1 : Rep K c H0 O H1 σ ρ) (e1 : Ex c.S H H1) (w : WalkT K (but H1 (c.M ++ O)) J xs) (h1 : lcGo dg dt de vs ρ [] xs fun acc => P (.lst acc) false) (q : ∀ v d b H', P d b → Rep K c H0 O H' σ ρ → Ex c.S H H' → RB K c O H' b d v → Q v H') : tLc (fun _ _ R => R J H1) g tt te vs σ H1 Q :=
  lc_tailN hg ht he rp1 e1 w h1 fun p av ad H2 lg rp2 hno hx ra g2 ex hn =>
    q _ _ false H2 lg (rp2.less hno) ex ⟨p, av, rfl, but_of (rp1.new hn) hx, RA.grow (but_le fun a z => (List.mem_append.mp z).elim (fun q => List.mem_append_left _ q) fun q => List.mem_append_right _ (List.mem_cons_of_mem _ q)) _ _ ra⟩
theorem walkT_keys {F : Hp} {d : Addr} {o : Obj} {kvs : List (List L2.Key × D)} {gs : List (List L2.Key × V)} (h : F d = some (.frz o (.dT gs))) (rt : RT K F kvs gs) : WalkT K F (Itkt d o gs) (keysD kvs) := by
  have hl : (keysD kvs).length = gs.length := by unfold keysD; rw [List.length_map, RT.len rt]
  refine ⟨_, _, by rw [hl]; exact walk_keysT, fun H g => g _ _ h, fun i H x H' e he y => ?_⟩
  obtain ⟨rfl, k, v, q, h1, rfl, h2⟩ := y
  refine .inr ⟨rfl, q, k, rfl, ?_, h2⟩
  have : ∀ (kvs : List (List L2.Key × D)) (gs : List (List L2.Key × V)) (i : Nat), RT K F kvs gs → gs[i]? = some (k, v) → (keysD kvs)[i]? = some (.tup (k.map keyDat)) := by
    intro kvs
    induction kvs with
    | nil =>
      intro gs i r e
      rw [show gs = [] from r] at e
      simp at e
    | cons f kvs ih =>
      intro gs i r e
      obtain ⟨v', r', rfl, _, r2⟩ := r
      cases i with
      | zero =>
        simp at e
        simp [keysD, e.1]
      | succ i =>
        simp at e
        have := ih r' i r2 e
        simpa [keysD] using this
  have z := this kvs gs i rt h1
  rw [he] at z
  injection z
end
/-- [.. for .. in e if ..], the dict of e frozen for it, or frozen already -/
def tLcK (td : TE) (g : TG) (tt : TT) (te : TE) (vs : List Nat) : TE := fun σ H Q => tLockE (tLc (iKeys td) g tt te vs) σ H Q ∨ tLc (iKeys td) g tt te vs σ H Q
theorem pe_lcK {X : Cx} {e : Expr} {td : TE} {g : TG} {tt : TT} {te : TE} {vs : List Nat} (h : PE X e (tLc (iKeys td) g tt te vs)) : PE X e (tLcK td g tt te vs) :=
  ⟨fun pins s σ H Q I hw => hw.elim (fun z => (pe_lock h).run pins s σ H Q I z) fun z => h.run pins s σ H Q I z⟩
/-- a name in a slot, not an own one -/
def dLcK (C : Addr) (f : Str) (i : Nat) (dg : DG) (dt : DT) (de : DE) (vs : List Nat) : DE := fun ρ P => dFld C f (dVar i) ρ fun x b => b = false ∧ match x with
  | .dt kvs => lcGo dg dt de vs ρ [] (keysD kvs) fun acc => P (.lst acc) false
  | _ => False
section
variable {K : PySem.W.Frag} {c : Fm} {H0 : Hp} {te : TE} {de : DE} {C : Addr} {f : Str} {i : Nat}
theorem lcK_go {g : TG} {dg : DG} {tt : TT} {dt : DT} {vs : List Nat} {bag : Option (Addr × Addr)} (hb : c.bag = bag) (cl : Cls K C) (na : NoAttr K C f) (hg : ∀ c H0, c.bag = bag → SimGn K c H0 g dg vs) (ht : ∀ c H0, c.bag = bag → SimT K c H0 tt dt) (he : ∀ c H0, c.bag = bag → SimE K c H0 te de) {ρ : DEnv} {P : List D → Prop} {O : List Addr} {σ : L2.St} {H : Hp} {Q : VK} (rp : Rep K c H0 O H σ ρ)
    (h : dFld C f (dVar i) ρ fun x b => b = false ∧ match x with | .dt kvs => lcGo dg dt de vs ρ [] (keysD kvs) P | _ => False)
    (q : ∀ p xs ds H', P ds → Rep K c H0 (p :: O) H' σ ρ → (∀ (i : Nat) (es : D), ρ[i]? = some (some (Ent.own es)) → σ[i]? ≠ some (some (.ref p))) → H' p = some (.lst xs) → RA K (but H' (c.M ++ p :: O)) ds xs → Grow (but H (c.M ++ O)) (but H' (c.M ++ p :: O)) → Ex c.S H H' → H p = none → Q (.ref p) H') : tLcK (tFld K (tVar i) f) g tt te vs σ H Q := by
  have t := sim_fld (c := c) (H0 := H0) (ta := tVar i) cl na sim_var ρ _ h O σ H (fun w H' => ∃ d kvs gs, w = V.ref d ∧ Rd (but H' (c.M ++ O)) d (.dT gs) ∧ RT K (but H' (c.M ++ O)) kvs gs ∧ lcGo dg dt de vs ρ [] (keysD kvs) P) rp fun v x b H' hp rp' ex rb => by
    obtain ⟨rfl, hp⟩ := hp
    cases x with
    | dt kvs =>
      obtain ⟨d, gs, rfl, r1, r2⟩ := rb
      exact ⟨d, kvs, gs, rfl, r1, r2, hp⟩
    | _ => exact hp.elim
  obtain ⟨v0, hv0, a, C', dx, fs, w, rfl, ha, cl', na', lk, d, kvs, gs, rfl, rd, rt, lg⟩ := t
  rcases rd with rd | ⟨o, rd⟩
  · obtain ⟨nd, hd⟩ := but_some rd
    have nM : d ∉ c.M := fun z => nd (List.mem_append_left _ z)
    have nO : d ∉ O := fun z => nd (List.mem_append_right _ z)
    have had : a ≠ d := fun z => by rw [z, hd] at ha; cases ha
    refine .inl ⟨d, .dT gs, hd, trivial, fun od => ?_⟩
    refine ⟨.ref a, hv0, a, C', dx, fs, .ref d, rfl, by rw [upd_ne had]; exact ha, cl', na', lk, d, od, rfl, .inr ⟨gs, upd_same, ?_⟩⟩
    have rpL := rp.lock (od := od) hd nM nO
    have lkd := Lk.upd (o := od) hd
    refine lc_tailN (Q := fun v H' => H' d = some (.frz od (.dT gs)) ∧ Q v (upd H' d (.dT gs))) (hg (c.locked d gs od nM) _ hb) (ht _ _ hb) (he _ _ hb) rpL (Ex.refl _) (walkT_keys (but_of nd upd_same) (RT.lk lkd.but _ _ rt)) lg fun p xs ds H' hp rp' hno hx ra gr ex hn => ?_
    have npd : p ≠ d := fun z => by rw [z, upd_same] at hn; cases hn
    have hn' : H p = none := by rw [upd_ne npd] at hn; exact hn
    have rpp := rp.more (o := HO.lst []) hn'
    have hdp : upd H p (.lst []) d = some (.dT gs) := by rw [upd_ne npd.symm]; exact hd
    obtain ⟨rpU, hd'⟩ := rpp.unlock hdp (fun z => (List.mem_cons.mp z).elim (fun z => npd z.symm) nO) rp'
    refine ⟨hd', q p xs ds _ hp rpU hno (by rw [upd_ne npd]; exact hx) (RA.lk (Lk.free hd').but _ _ ra) (fun x u e => ?_) (fun x u e n => ?_) hn'⟩
    · obtain ⟨n, e⟩ := but_some e
      by_cases z : x = d
      · subst z
        rw [hd] at e
        refine but_of (fun y => ?_) (by rw [upd_same]; exact e)
        rcases List.mem_append.mp y with y | y
        · exact nM y
        · exact (List.mem_cons.mp y).elim (fun z => npd z.symm) nO
      · obtain ⟨n2, e2⟩ := but_some (gr x u (but_of n (by rw [upd_ne z]; exact e)))
        exact but_of n2 (by rw [upd_ne z]; exact e2)
    · by_cases z : x = d
      · subst z
        rw [hd] at e
        rw [upd_same]
        exact e
      · rw [upd_ne z]
        exact ex x u (by rw [upd_ne z]; exact e) n
  · obtain ⟨nd, hd⟩ := but_some rd
    refine .inr ⟨.ref a, hv0, a, C', dx, fs, .ref d, rfl, ha, cl', na', lk, d, o, rfl, .inr ⟨gs, hd, ?_⟩⟩
    exact lc_tailN (Q := Q) (hg _ _ hb) (ht _ _ hb) (he _ _ hb) rp (Ex.refl _) (walkT_keys rd rt) lg q
theorem sim_lcK {g : TG} {dg : DG} {tt : TT} {dt : DT} {vs : List Nat} {bag : Option (Addr × Addr)} (hb : c.bag = bag) (cl : Cls K C) (na : NoAttr K C f) (hg : ∀ c H0, c.bag = bag → SimGn K c H0 g dg vs) (ht : ∀ c H0, c.bag = bag → SimT K c H0 tt dt) (he : ∀ c H0, c.bag = bag → SimE K c H0 te de) : SimE K c H0 (tLcK (tFld K (tVar i) f) g tt te vs) (dLcK C f i dg dt de vs) :=
  fun ρ P h O σ H Q rp q => lcK_go hb cl na hg ht he rp h fun p av ad H2 lg rp2 hno hx ra g2 ex hn =>
    q _ _ false H2 lg (rp2.less hno) ex ⟨p, av, rfl, but_of (rp.new hn) hx, RA.grow (but_le fun a z => (List.mem_append.mp z).elim (fun q => List.mem_append_left _ q) fun q => List.mem_append_right _ (List.mem_cons_of_mem _ q)) _ _ ra⟩
def dnLcK (C : Addr) (f : Str) (i : Nat) (dg : DG) (dt : DT) (de : DE) (vs : List Nat) : DN := fun ρ P => dFld C f (dVar i) ρ fun x b => b = false ∧ match x with
  | .dt kvs => lcGo dg dt de vs ρ [] (keysD kvs) P
  | _ => False
theorem sn_lcK {g : TG} {dg : DG} {tt : TT} {dt : DT} {vs : List Nat} {bag : Option (Addr × Addr)} (hb : c.bag = bag) (cl : Cls K C) (na : NoAttr K C f) (hg : ∀ c H0, c.bag = bag → SimGn K c H0 g dg vs) (ht : ∀ c H0, c.bag = bag → SimT K c H0 tt dt) (he : ∀ c H0, c.bag = bag → SimE K c H0 te de) : SimN K c H0 (tLcK (tFld K (tVar i) f) g tt te vs) (dnLcK C f i dg dt de vs) :=
  fun ρ P h O σ H Q rp q => lcK_go hb cl na hg ht he rp h fun p av ad H2 lg rp2 hno hx ra g2 ex hn => q p av ad H2 lg rp2 hno hx ra g2 ex fun z => rp.new hn (List.mem_append_right _ z)
theorem go_nlcK {dg : DG} {dt : DT} {vs : List Nat} {ρ : DEnv} {P : List D → Prop} : Go (dnLcK C f i dg dt de vs ρ P) = Go (dFld C f (dVar i) ρ fun x b => b = false ∧ match x with
  | .dt kvs => lcGo dg dt de vs ρ [] (keysD kvs) P
  | _ => False) := (rfl)
theorem go_lcK {dg : DG} {dt : DT} {vs : List Nat} {ρ : DEnv} {P : D → Bool → Prop} : Go (dLcK C f i dg dt de vs ρ P) = Go (dFld C f (dVar i) ρ fun x b => b = false ∧ match x with
  | .dt kvs => lcGo dg dt de vs ρ [] (keysD kvs) fun acc => P (.lst acc) false
  | _ => False) := (rfl)
end
end QD

/-! QD73: {x: True for x in sorted(list(d))}, d a dict with pairs of texts as keys. -/
namespace QD
open PySem L2 PyProof.Rows PySem.Spec
/-- a dict's items: these pairs, each with True -/
def heldK (ps : List Pr) : List (List L2.Key × D) := ps.map fun p => (pK p, .bl true)
/-- at v: a list of these pairs, each a tuple of its own -/
def TrL (M : List Addr) (H : Hp) (v : V) (ps : List Pr) : Prop := ∃ (a : Addr) (T : List (Pr × Addr)), v = .ref a ∧ but H M a = some (.lst (T.map fun t => V.ref t.2)) ∧ T.map (·.1) = ps ∧ ∀ t ∈ T, H t.2 = some (.tup ((pK t.1).map kV))
abbrev DK := DEnv → (List Pr → Prop) → Prop
def SimK (K : PySem.W.Frag) (c : Fm) (H0 : Hp) (te : TE) (dk : DK) : Prop := ∀ ρ P, dk ρ P → ∀ O σ H Q, Rep K c H0 O H σ ρ → (∀ v ps H', P ps → Rep K c H0 O H' σ ρ → Ex c.S H H' → TrL (c.M ++ O) H' v ps → Q v H') → te σ H Q
def dkList (de : DE) : DK := fun ρ P => de ρ fun x _ => ∃ ps, x = .dt (heldK ps) ∧ P ps
def dkSort (dk : DK) : DK := fun ρ P => dk ρ fun ps => ps.length ≤ sizeLine ∧ P (sortP ps)
def dDcK (j : Nat) (dk : DK) : DE := fun ρ P => j < ρ.length ∧ dk ρ fun ps => ps.Nodup ∧ ps.length ≤ sizeLine ∧ P (.dt (heldK ps)) false
theorem keys_T {K : PySem.W.Frag} {Hb H : Hp} : ∀ {ps : List Pr} {gs : List (List L2.Key × V)} {bs : List Addr}, RT K Hb (heldK ps) gs → IsKeys H gs bs → ∃ T : List (Pr × Addr), bs.map V.ref = T.map (fun t => V.ref t.2) ∧ T.map (·.1) = ps ∧ ∀ t ∈ T, H t.2 = some (.tup ((pK t.1).map kV))
  | [], gs, bs, h, k => by
    rw [show gs = [] from h] at k
    cases k
    exact ⟨[], rfl, rfl, fun t ht => by simp at ht⟩
  | p :: ps, gs, bs, h, k => by
    obtain ⟨v, r, rfl, _, h2⟩ := h
    cases k with
    | cons e t =>
      rename_i b bs
      obtain ⟨T, e1, e2, e3⟩ := keys_T (ps := ps) h2 t
      refine ⟨(p, b) :: T, ?_, ?_, fun t ht => ?_⟩
      · rw [List.map_cons, List.map_cons, e1]
      · rw [List.map_cons, e2]
      · rcases List.mem_cons.mp ht with rfl | ht
        · exact e
        · exact e3 t ht
theorem putT_held {ps : List Pr} {p : Pr} (h : p ∉ ps) : putT (heldK ps) (pK p) (.bl true) = heldK (ps ++ [p]) := by
  have : hasK (heldK ps) (pK p) = false := by
    unfold hasK heldK
    rw [List.any_map, List.any_eq_false]
    intro q hq
    simp only [Function.comp_apply, decide_eq_true_eq]
    intro e
    exact h (pK_inj e ▸ hq)
  unfold putT
  rw [this, if_neg (by simp)]
  unfold heldK
  rw [List.map_append]
  rfl
section
variable {K : PySem.W.Frag} {c : Fm} {H0 : Hp} {te td : TE} {de : DE} {dk : DK}
theorem sk_list (h : SimE K c H0 td de) : SimK K c H0 (tCB (rListX K) (tCons td tNil)) (dkList de) := by
  intro ρ P hp O σ H Q rp q
  refine h ρ _ hp O σ H _ rp fun v x b H1 h1 rp1 e1 rx => ?_
  obtain ⟨ps, rfl, hP⟩ := h1
  obtain ⟨a, gs, rfl, g1, g2⟩ := rx
  refine .inr ⟨a, gs, rfl, g1.elim (fun y => .inl (but_some y).2) (fun ⟨o, y⟩ => .inr ⟨o, (but_some y).2⟩), fun p bs hp hk => ?_⟩
  obtain ⟨T, t1, t2, t3⟩ := keys_T g2 hk
  have ex : Ex c.S H1 (upd H1 p (.lst (bs.map V.ref))) := Ex.new hp
  refine q _ ps _ hP (rp1.up ex (c.st _ _ (Grow.new hp) rp1.inv)) (e1.trans ex) ⟨p, T, rfl, ?_, t2, fun t ht => ?_⟩
  · rw [← t1]
    exact but_of (rp1.new hp) upd_same
  · rw [upd_ne (ne_of_none (t3 t ht) hp)]
    exact t3 t ht
theorem sk_sort (h : SimK K c H0 te dk) : SimK K c H0 (tCB (rSortD K 8) (tCons te tNil)) (dkSort dk) := by
  intro ρ P hp O σ H Q rp q
  refine h ρ _ hp O σ H _ rp fun v ps H1 h1 rp1 e1 tr => ?_
  obtain ⟨hz, hP⟩ := h1
  obtain ⟨a, T, rfl, ha, rfl, tt⟩ := tr
  have ok := sortOk_pairs (T.map (·.1))
  have epy : ((T.map fun t => (V.ref t.2, pPy t.1)).map (·.2)) = ((T.map (·.1)).map pD).map pyOf := by
    rw [List.map_map, List.map_map, List.map_map]
    rfl
  refine ⟨a, T.map fun t => (V.ref t.2, pPy t.1), rfl, ?_, ?_, by rw [epy]; exact ok.alike, by rw [epy]; exact ok.sortable, by rw [List.length_map]; rw [List.length_map] at hz; exact hz, ?_, fun p hp => ?_⟩
  · rw [List.map_map]
    exact .inl (.inl (but_some ha).2)
  · intro b hb
    obtain ⟨t, ht, rfl⟩ := List.mem_map.mp hb
    have : R K H1 (pD t.1) (.ref t.2) := ⟨t.2, _, rfl, .inl (.inl (tt t ht)), ⟨_, _, rfl, rfl, ⟨_, _, rfl, rfl, rfl⟩⟩⟩
    exact R.dp _ _ _ rfl this
  · intro b hb
    obtain ⟨t, ht, rfl⟩ := List.mem_map.mp hb
    exact ok.dep (pD t.1) (List.mem_map.mpr ⟨t.1, List.mem_map.mpr ⟨t, ht, rfl⟩, rfl⟩)
  · have s1 : (T.mergeSort fun x y => leP x.1 y.1).map (·.1) = sortP (T.map (·.1)) := by
      unfold sortP
      exact PySem.W.sort_maps (r := fun x y : Pr × Addr => leP x.1 y.1) (s := leP) (fun t : Pr × Addr => t.1) fun _ _ _ _ => rfl
    have s2 : (((T.map fun t => (V.ref t.2, pPy t.1)).mergeSort (PySem.W.dataLe false (·.2))).map (·.1)) = (T.mergeSort fun x y => leP x.1 y.1).map fun t => V.ref t.2 := by
      rw [← PySem.W.sort_maps (r := fun x y : Pr × Addr => leP x.1 y.1) (s := PySem.W.dataLe false (·.2)) (fun t : Pr × Addr => (V.ref t.2, pPy t.1)) fun _ _ _ _ => rfl, List.map_map]
      rfl
    rw [s2]
    have ex : Ex c.S H1 (upd H1 p (.lst ((T.mergeSort fun x y => leP x.1 y.1).map fun t => V.ref t.2))) := Ex.new hp
    refine q _ _ _ hP (rp1.up ex (c.st _ _ (Grow.new hp) rp1.inv)) (e1.trans ex) ⟨p, _, rfl, but_of (rp1.new hp) upd_same, s1, fun t ht => ?_⟩
    have ht' := tt t (List.mem_mergeSort.mp ht)
    rw [upd_ne (ne_of_none ht' hp)]
    exact ht'
theorem sim_dcK {j : Nat} (h : SimK K c H0 te dk) : SimE K c H0 (tDcT (iAny K te) (gName j) tYes (tVar j) (tC (.bl true)) [j]) (dDcK j dk) := by
  intro ρ P hp O σ H Q rp q
  obtain ⟨hj, hp⟩ := hp
  refine h ρ _ hp O σ H _ rp fun v ps H1 h1 rp1 e1 tr => ?_
  obtain ⟨nd, hz, hP⟩ := h1
  obtain ⟨a, T, rfl, ha, rfl, tt⟩ := tr
  obtain ⟨na, ha⟩ := but_some ha
  refine .inl ⟨a, _, rfl, .inl (.inl ha), ?_⟩
  intro D hD
  have rpD := rp1.more (o := HO.dT []) hD
  have hnM := rp1.new hD
  have hno := rp1.own_ne hD
  have keep : ∀ {H2 : Hp}, Ex c.S H1 H2 → SqL K H2 a (T.map fun t => V.ref t.2) := fun e => .inl (.inl (e _ _ ha fun z => na (List.mem_append_left _ (c.sub a z))))
  refine dct_it (walk_list (K := K) (a := a) (xs := T.map fun t => V.ref t.2)) (fun i H2 => ∃ av, Rep K c H0 (D :: O) H2 σ ρ ∧ H2 D = some (.dT av) ∧ RT K (but H2 (c.M ++ D :: O)) (heldK ((T.map (·.1)).take i)) av ∧ Ex c.S H1 H2)
    ⟨[], rpD, upd_same, rfl, Ex.new hD⟩ (fun i H2 _ ⟨av, _, _, _, ex⟩ => keep ex) (fun i x H2 H3 hlt ⟨av, rp2, hD2, ra2, ex2⟩ y => ?_) fun H2 ⟨av, rp2, hD2, ra2, ex2⟩ => ?_
  · obtain ⟨rfl, ex⟩ := y
    have hlt' : i < T.length := by rw [List.length_map] at hlt; exact hlt
    have exi : x = V.ref (T[i]).2 := by
      rw [List.getElem?_map, List.getElem?_eq_getElem hlt'] at ex
      exact (Option.some.inj ex).symm
    have hq3 : H3 (T[i]).2 = some (.tup ((pK (T[i]).1).map kV)) := ex2 _ _ (tt _ (List.getElem_mem hlt')) fun z => by
      obtain ⟨o, e3, e4⟩ := c.kd H1 rp1.inv _ (c.sub _ z)
      rw [tt _ (List.getElem_mem hlt')] at e3
      cases e3
      cases e4
    have hDS : D ∉ c.S := rp2.notS List.mem_cons_self
    refine ⟨?_, ?_⟩
    · exact wipe_ext (by rw [List.length_set, wipe_length]) fun k hk => by
        have hk' : k ≠ j := fun z => hk (by simp [z])
        rw [List.getElem?_set_ne (Ne.symm hk')]
        exact wipe_get σ hk
    · refine (show tVar j ((wipe σ [j]).set j (some x)) H3 (fun y He => tC (V.bl true) ((wipe σ [j]).set j (some x)) He fun u Hf => ∃ Hg, DPut Hf D y u Hg ∧ ∃ av, Rep K c H0 (D :: O) Hg σ ρ ∧ Hg D = some (HO.dT av) ∧ RT K (but Hg (c.M ++ D :: O)) (heldK ((T.map (·.1)).take (i + 1))) av ∧ Ex c.S H1 Hg) from ?_)
      have hl : av.length = i := by
        rw [RT.len ra2]
        unfold heldK
        rw [List.length_map, List.length_take, List.length_map]
        omega
      refine ⟨x, by rw [List.getElem?_set_self (by rw [wipe_length, rp.len]; exact hj)], ?_⟩
      subst exi
      have np : (T[i]).1 ∉ (T.map (·.1)).take i := fun z => by
        obtain ⟨m, hm, e⟩ := List.mem_iff_getElem.mp z
        rw [List.getElem_take, List.getElem_map] at e
        rw [List.length_take, List.length_map] at hm
        have := (List.pairwise_iff_getElem.mp nd) m i (by rw [List.length_map]; omega) (by rw [List.length_map]; exact hlt') (by omega)
        rw [List.getElem_map, List.getElem_map] at this
        exact this e
      refine ⟨upd H3 D (.dT (putK av (pK (T[i]).1) (.bl true))), .inr ⟨av, pK (T[i]).1, (T[i]).2, hD2, rfl, hq3, by rw [hl]; rw [List.length_map] at hz; omega, rfl⟩, putK av (pK (T[i]).1) (.bl true), rp2.store List.mem_cons_self _ hno, upd_same, ?_, fun z u e n => ?_⟩
      · have e1 : (T.map (·.1)).take (i + 1) = (T.map (·.1)).take i ++ [(T[i]).1] := by
          rw [List.take_succ, List.getElem?_map, List.getElem?_eq_getElem hlt']
          rfl
        rw [e1, ← putT_held np]
        refine RT.grow (fun b u e => ?_) _ _ (RT.put (k := pK (T[i]).1) (d := .bl true) ra2 rfl)
        obtain ⟨n, e⟩ := but_some e
        have hne : b ≠ D := fun z => n (List.mem_append_right _ (z ▸ List.mem_cons_self))
        exact but_of n (by rw [upd_ne hne]; exact e)
      · have hne : z ≠ D := ne_of_none e hD
        rw [upd_ne hne]
        exact ex2 z u e n
  · rw [List.take_of_length_le (by rw [List.length_map, List.length_map]; exact Nat.le_refl _)] at ra2
    exact q _ _ false H2 hP (rp2.less hno) (e1.trans ex2) ⟨D, av, rfl, .inl (but_of hnM hD2), RT.grow (but_le fun a z => (List.mem_append.mp z).elim (fun q => List.mem_append_left _ q) fun q => List.mem_append_right _ (List.mem_cons_of_mem _ q)) _ _ ra2⟩
theorem go_dcK {j : Nat} {ρ : DEnv} {P : D → Bool → Prop} : Go (dDcK j dk ρ P) = Go (j < ρ.length ∧ dk ρ fun ps => ps.Nodup ∧ ps.length ≤ sizeLine ∧ P (.dt (heldK ps)) false) := (rfl)
theorem go_kSort {ρ : DEnv} {P : List Pr → Prop} : Go (dkSort dk ρ P) = Go (dk ρ fun ps => ps.length ≤ sizeLine ∧ P (sortP ps)) := (rfl)
theorem go_kList {ρ : DEnv} {P : List Pr → Prop} : Go (dkList de ρ P) = Go (de ρ fun x _ => ∃ ps, x = .dt (heldK ps) ∧ P ps) := (rfl)
end
end QD

/-! QD74: methods that hand back a new list; a dict's keys as one. -/
namespace QD
open PySem L2 PyProof.Rows PySem.Spec
section
variable {K : PySem.W.Frag} {c : Fm} {H0 : Hp} {ta tb te td : TE} {da db de : DE}
theorem sim_methB {bag : Option (Addr × Addr)} {C : Addr} {m : Str} {n : Nat} {dT : DF} {dvs : List V} {dd : List D} {E : XK} {t : TA} {dts : DA} (hb : c.bag = bag) (hd : ∀ H, RA K H dd dvs) (ho : SimE K c H0 ta da) (ha : SimA K c H0 t dts) : SimE K c H0 (tMeth C m (spD K n dT) dvs E ta t) (dMeth bag C m n dT dd da dts) := by
  subst hb; exact sim_meth hd ho ha
/-- o.m(..), a new list -/
def dnMethX (bag : Option (Addr × Addr)) (C : Addr) (m : Str) (n : Nat) (dT : DF) (dd : List D) (do_ : DE) (da : DA) (Er : DEr) : DN := fun ρ PI => do_ ρ fun x b0 => asIns C x fun fs => fs.lookup m = none ∧ da ρ fun xs b => (b0 || b) = false ∧ (x :: xs ++ dd).length = n ∧ dT bag (x :: xs ++ dd) (fun z => optP z.isLst PI) Er
theorem sn_methX {C : Addr} {m : Str} {n : Nat} {dT : DF} {dvs : List V} {dd : List D} {E : XK} {Er : DEr} {t : TA} {dts : DA} (hE : ErOk K c H0 E Er) (hd : ∀ H, RA K H dd dvs) (ho : SimE K c H0 ta da) (ha : SimA K c H0 t dts) : SimN K c H0 (tMeth C m (spN K n dT) dvs E ta t) (dnMethX c.bag C m n dT dd da dts Er) := by
  intro ρ P h O σ H Q rp q
  refine ho ρ _ h O σ H _ rp fun v x b0 H1 h1 rp1 e1 rx => ?_
  obtain ⟨fs, rfl, h2, a, dx, gs, rfl, g1, g2⟩ := rb_ins rx h1
  refine ⟨a, dx, gs, rfl, g1, RF.lookup_none g2 h2.1, ?_⟩
  refine ha ρ _ h2.2 O σ H1 _ rp1 fun vs xs b H2 h3 rp2 e2 rxs => ?_
  obtain ⟨hb, h3⟩ := h3
  have hb0 : b0 = false := by cases b0 <;> simp_all
  have hb1 : b = false := by cases b <;> simp_all
  subst hb0 hb1
  have e12 := e1.trans e2
  have g1 := e12.but (M := c.M ++ O) fun a z => List.mem_append_left _ (c.sub a z)
  refine ⟨rp2.fm, D.ins C fs :: xs ++ dd, _, Er, h3.1, ⟨rp2.inv, rp2.liv⟩, (show RA K (but H2 (c.M ++ O)) (D.ins C fs :: xs ++ dd) (.ref a :: vs ++ dvs) from ⟨_, _, rfl, rx.up e2, RA.app rxs (hd _)⟩), h3.2, fun p ys es H' hp i ex hn hx rx' => ?_, fun C' d gs fs H' hf i ex hx rf => ?_⟩
  · obtain ⟨r2, g2⟩ := rp2.newN ex i.1 hn hx rfl
    refine q p ys es H' hp r2 (rp2.own_ne hn) hx (RA.grow (but_le fun a z => ?_) _ _ rx') (g1.trans g2) (e12.trans ex) fun z => rp2.new hn (List.mem_append_right _ z)
    rcases List.mem_append.mp z with z | z
    · exact List.mem_append_left _ (List.mem_append_left _ z)
    · rcases List.mem_cons.mp z with z | z
      · exact List.mem_append_right _ (List.mem_singleton.mpr z)
      · exact List.mem_append_left _ (List.mem_append_right _ z)
  · exact hE C' d gs fs H' hf i.1 (rp2.ent.trans ex) hx (RF.grow1 (but_le fun a z => List.mem_append_left _ z) rf)
/-- list(d), d a dict with tuples as keys: a new list -/
def dnListD (de : DE) : DN := fun ρ P => de ρ fun x b => b = false ∧ match x with
  | .dt kvs => P (keysD kvs)
  | _ => False
theorem sn_listD (h : SimE K c H0 td de) : SimN K c H0 (tCB (rListX K) (tCons td tNil)) (dnListD de) := by
  intro ρ P hp O σ H Q rp q
  refine h ρ _ hp O σ H _ rp fun v x b H1 h1 rp1 e1 rx => ?_
  obtain ⟨rfl, h1⟩ := h1
  cases x with
  | dt kvs =>
    obtain ⟨a, gs, rfl, g1, g2⟩ := rx
    refine .inr ⟨a, gs, rfl, g1.elim (fun y => .inl (but_some y).2) (fun ⟨o, y⟩ => .inr ⟨o, (but_some y).2⟩), fun p bs hp hk => ?_⟩
    have nm : ∀ a, a ∈ (if false = true then c.M else c.M ++ O) → KdAt H1 a := fun a ha => by
      rcases List.mem_append.mp (mo_of (b := false) ha) with z | z
      · exact c.kd H1 rp1.inv a z
      · exact rp1.liv a z
    have ra := keys_RA nm g2 hk
    have ex : Ex c.S H1 (upd H1 p (.lst (bs.map V.ref))) := Ex.new hp
    have g := (e1.but (M := c.M ++ O) fun a z => List.mem_append_left _ (c.sub a z)).trans (grow_new (c := c) (O := O) (o := HO.lst (bs.map V.ref)) hp)
    exact q p _ _ _ h1 (rp1.more hp) (rp1.own_ne hp) upd_same (RA.grow (grow_new (c := c) (O := O) hp) _ _ ra) g (e1.trans ex) fun z => rp1.new hp (List.mem_append_right _ z)
  | _ => exact h1.elim
theorem q_inWK {X : Cx} {K : PySem.W.Frag} (hK : X.K = K) (hu : X.A.units + 65 < cLine) : OpR X (compareOp .In) (rInW K false) := hK ▸ q_inW hu
theorem q_ninWK {X : Cx} {K : PySem.W.Frag} (hK : X.K = K) (hu : X.A.units + 65 < cLine) : OpR X (compareOp .NotIn) (rInW K true) := hK ▸ q_ninW hu
theorem q_eqK {X : Cx} {K : PySem.W.Frag} (hK : X.K = K) (hu : X.A.units + 64 < cLine) : OpR X (compareOp .Eq) (gEq K) := hK ▸ q_eq hu
theorem q_neK {X : Cx} {K : PySem.W.Frag} (hK : X.K = K) (hu : X.A.units + 64 < cLine) : OpR X (compareOp .NotEq) (gNe K) := hK ▸ q_ne hu
theorem q_inGK {X : Cx} {K : PySem.W.Frag} (hK : X.K = K) : OpR X (compareOp .In) (gIn K) := hK ▸ q_in
theorem q_notinGK {X : Cx} {K : PySem.W.Frag} (hK : X.K = K) : OpR X (compareOp .NotIn) (gNotIn K) := hK ▸ q_notin
theorem go_methXN {C : Addr} {m : Str} {n : Nat} {dT : DF} {dd : List D} {Er : DEr} {bag : Option (Addr × Addr)} {dts : DA} {ρ : DEnv} {PI : List D → Prop} : Go (dnMethX bag C m n dT dd de dts Er ρ PI) = Go (de ρ fun x b0 => asIns C x fun fs => fs.lookup m = none ∧ dts ρ fun xs b => (b0 || b) = false ∧ (x :: xs ++ dd).length = n ∧ dT bag (x :: xs ++ dd) (fun z => optP z.isLst PI) Er) := (rfl)
theorem go_nlistD {ρ : DEnv} {P : List D → Prop} : Go (dnListD de ρ P) = Go (de ρ fun x b => b = false ∧ match x with
  | .dt kvs => P (keysD kvs)
  | _ => False) := (rfl)
end
end QD

/-! QD75: an own list that a test walks: frozen for the test alone. -/
namespace QD
open PySem L2 PyProof.Rows PySem.Spec
def dFrzT (i : Nat) (dt : DT) : DT := fun ρ P => dt (freeze i ρ) P
section
variable {K : PySem.W.Frag} {c : Fm} {H0 : Hp} {tt : TT} {dt : DT}
theorem sim_frzT (i : Nat) (h : SimT K c H0 tt dt) : SimT K c H0 tt (dFrzT i dt) := by
  intro ρ P hd O σ H Q rp q
  unfold dFrzT freeze frz1 at hd
  split at hd
  · rename_i es e
    obtain ⟨O', rp', g'⟩ := rp.less2 (O' := O) e
    exact h _ P hd O' σ H Q rp' fun k H' hp rp2 ex => q k H' hp (rp.up ex rp2.inv) ex
  · exact h _ P hd O σ H Q rp q
theorem go_frzT {i : Nat} {ρ : DEnv} {P : Bool → Prop} : Go (dFrzT i dt ρ P) = Go (dt (frz1 ρ i ρ[i]?) P) := (rfl)
end
end QD

namespace Kx
open PySem L2 QD

theorem nE__follows__held : (("_follows" : Str) = "_held") = False := eq_false (by decide +kernel)
theorem nB__follows__held : (("_follows" : Str) == "_held") = false := by decide +kernel
theorem nE__follows_names : (("_follows" : Str) = "names") = False := eq_false (by decide +kernel)
theorem nB__follows_names : (("_follows" : Str) == "names") = false := by decide +kernel
theorem nE__follows_needed : (("_follows" : Str) = "needed") = False := eq_false (by decide +kernel)
theorem nB__follows_needed : (("_follows" : Str) == "needed") = false := by decide +kernel
theorem nE__follows_pairs : (("_follows" : Str) = "pairs") = False := eq_false (by decide +kernel)
theorem nB__follows_pairs : (("_follows" : Str) == "pairs") = false := by decide +kernel
theorem nE__held__follows : (("_held" : Str) = "_follows") = False := eq_false (by decide +kernel)
theorem nB__held__follows : (("_held" : Str) == "_follows") = false := by decide +kernel
theorem nE__held_names : (("_held" : Str) = "names") = False := eq_false (by decide +kernel)
theorem nB__held_names : (("_held" : Str) == "names") = false := by decide +kernel
theorem nE__held_needed : (("_held" : Str) = "needed") = False := eq_false (by decide +kernel)
theorem nB__held_needed : (("_held" : Str) == "needed") = false := by decide +kernel
theorem nE__held_pairs : (("_held" : Str) = "pairs") = False := eq_false (by decide +kernel)
theorem nB__held_pairs : (("_held" : Str) == "pairs") = false := by decide +kernel
theorem nE_names__follows : (("names" : Str) = "_follows") = False := eq_false (by decide +kernel)
theorem nB_names__follows : (("names" : Str) == "_follows") = false := by decide +kernel
theorem nE_names__held : (("names" : Str) = "_held") = False := eq_false (by decide +kernel)
theorem nB_names__held : (("names" : Str) == "_held") = false := by decide +kernel
theorem nE_names_needed : (("names" : Str) = "needed") = False := eq_false (by decide +kernel)
theorem nB_names_needed : (("names" : Str) == "needed") = false := by decide +kernel
theorem nE_names_pairs : (("names" : Str) = "pairs") = False := eq_false (by decide +kernel)
theorem nB_names_pairs : (("names" : Str) == "pairs") = false := by decide +kernel
theorem nE_needed__follows : (("needed" : Str) = "_follows") = False := eq_false (by decide +kernel)
theorem nB_needed__follows : (("needed" : Str) == "_follows") = false := by decide +kernel
theorem nE_needed__held : (("needed" : Str) = "_held") = False := eq_false (by decide +kernel)
theorem nB_needed__held : (("needed" : Str) == "_held") = false := by decide +kernel
theorem nE_needed_names : (("needed" : Str) = "names") = False := eq_false (by decide +kernel)
theorem nB_needed_names : (("needed" : Str) == "names") = false := by decide +kernel
theorem nE_needed_pairs : (("needed" : Str) = "pairs") = False := eq_false (by decide +kernel)
theorem nB_needed_pairs : (("needed" : Str) == "pairs") = false := by decide +kernel
theorem nE_pairs__follows : (("pairs" : Str) = "_follows") = False := eq_false (by decide +kernel)
theorem nB_pairs__follows : (("pairs" : Str) == "_follows") = false := by decide +kernel
theorem nE_pairs__held : (("pairs" : Str) = "_held") = False := eq_false (by decide +kernel)
theorem nB_pairs__held : (("pairs" : Str) == "_held") = false := by decide +kernel
theorem nE_pairs_names : (("pairs" : Str) = "names") = False := eq_false (by decide +kernel)
theorem nB_pairs_names : (("pairs" : Str) == "names") = false := by decide +kernel
theorem nE_pairs_needed : (("pairs" : Str) = "needed") = False := eq_false (by decide +kernel)
theorem nB_pairs_needed : (("pairs" : Str) == "needed") = false := by decide +kernel
local macro_rules | `(tactic| walk_at "qd") => `(tactic| ((refine go_out ?_); (try simp only [nE__follows__held, nB__follows__held, nE__follows_names, nB__follows_names, nE__follows_needed, nB__follows_needed, nE__follows_pairs, nB__follows_pairs, nE__held__follows, nB__held__follows, nE__held_names, nB__held_names, nE__held_needed, nB__held_needed, nE__held_pairs, nB__held_pairs, nE_names__follows, nB_names__follows, nE_names__held, nB_names__held, nE_names_needed, nB_names_needed, nE_names_pairs, nB_names_pairs, nE_needed__follows, nB_needed__follows, nE_needed__held, nB_needed__held, nE_needed_names, nB_needed_names, nE_needed_pairs, nB_needed_pairs, nE_pairs__follows, nB_pairs__follows, nE_pairs__held, nB_pairs__held, nE_pairs_names, nB_pairs_names, nE_pairs_needed, nB_pairs_needed, go_lam, go_xf, go_gotP, go_allGotP, go_seqN, go_lxd, go_lxl, go_lxt, go_lxs, go_inTd, go_frzT, go_lcK, go_nlcK, go_dcK, go_kSort, go_kList, go_methXN, go_nlistD, go_putT, go_entDt, go_ownT, go_asgT, go_dcT, go_sortL, go_sortSet, go_nlc, go_retO, go_retE, go_callXN, go_appN, go_nsplit, go_forRet, go_dirty, go_cmethX, go_cmethNX, go_makeVX, go_addO, isLst_lst, go_neOwnL, go_par3VOO, go_methVX, go_augI, go_cval, go_lal, go_lat, go_las, dw1, dw2, List.isEmpty_nil, List.isEmpty_cons, strip_var, strip1_val, strip1_own, strip1_none, strip_nil, strip_val, strip_own, strip_none, go_raise, go_callX, go_callNX, go_smethX, go_methX, go_makeX, go_makeKX, go_inWT, go_inWL, go_inK2, List.lookup_cons, List.lookup_nil, beq_self_eq_true, go_go, go_fld, go_asIns, go_ownFld, go_objE, go_setFld, go_fmt, go_fmtS, go_fmtI, go_joined, go_jsN, go_jsC, go_inK, go_ixK, go_gtup, go_glst, setAll_nil, setAll_cons, go_make, go_makeK, go_meth, go_prop, go_smeth, go_smethN, isRaw_self, go_isiC, isiC_ins, isiC_str, isiC_non, go_eqOwn, go_neOwn, go_reprOwn, strOrIns_str, strOrIns_ins, putD, go_and, go_var, go_val, go_own, go_c, go_op, go_un, go_nil, go_cons, go_cb, go_tup, go_lst, go_test, go_asBl, go_asInt, go_asStr, go_some, go_dand, go_dor, go_dnot, go_ifE, go_andV, go_orV, go_notV, go_iT, go_iF, go_next, go_seq, go_if, go_ret, go_retN, go_brk, go_cont, go_drop, go_asg, go_gname, go_gpair, go_II, go_IC, go_addI, go_addS, go_addL, go_mulI, go_mulS, go_mulL, go_is, go_isnot, go_inS, go_inL, go_inT, go_ninS, go_eqbl, go_nebl, go_eqint, go_neint, go_isi, go_isi2, go_len, go_lenS, go_lenL, go_lenT, go_int1, go_intb, go_abs, go_max, go_min, go_lol, go_lot, go_tol, go_tot, go_all, go_any, go_ixL, go_ixT, go_ixS, go_noPart, go_part, go_sl, go_slL, go_slS, go_chain, go_lenSet, go_sl2, go_sl2L, go_tabG, go_tupBls, go_lenOwn, go_inOwn, go_eqNon, go_split, go_join, go_walk, go_rng1, go_rng2, go_zip, go_zipL, go_zipT, go_enum, go_enumL, go_lc, go_for, go_call, go_callN, go_asgO, go_nlst, go_nlo, go_append, go_entOwn, go_ownE, go_dxE, go_dxIf, go_asgX, go_popAt, go_pop, go_setIx, go_freeze, frz_own, frz_val, go_parVV, go_parOV, go_parVO, go_parOO, go_neg, dirt, D.flat, tyName, D.isNon, D.sign, D.toV, toVs, D.walked, D.items, strsOf, isD, isD2, inG, dstart, List.map, List.length, List.replicate, List.append, List.cons_append, List.nil_append, List.append_nil, List.getElem?_cons_zero, List.getElem?_cons_succ, List.set_cons_zero, List.set_cons_succ, Option.bind_some, Option.bind_none, if_true, if_false, Bool.false_eq_true, Bool.true_and, Bool.and_true, Bool.false_and, Bool.and_false, Bool.or_false, Bool.false_or, Bool.true_or, Bool.or_true, Bool.not_true, Bool.not_false, reduceIte, decide_true, decide_false, Nat.reduceAdd, Nat.reduceSub, Nat.zero_add, true_and, and_true,  ty_NoneType_str, ty_NoneType_int, ty_NoneType_bool, ty_NoneType_list, ty_NoneType_tuple, ty_bool_str, ty_bool_int, ty_bool_bool, ty_bool_list, ty_bool_tuple, ty_int_str, ty_int_int, ty_int_bool, ty_int_list, ty_int_tuple, ty_str_str, ty_str_int, ty_str_bool, ty_str_list, ty_str_tuple, ty_list_str, ty_list_int, ty_list_bool, ty_list_list, ty_list_tuple, ty_tuple_str, ty_tuple_int, ty_tuple_bool, ty_tuple_list, ty_tuple_tuple]); (try simp only [go_done])))
local macro_rules | `(tactic| walk_at "qs") => `(tactic| ((refine go_out ?_); (try simp only [nE__follows__held, nB__follows__held, nE__follows_names, nB__follows_names, nE__follows_needed, nB__follows_needed, nE__follows_pairs, nB__follows_pairs, nE__held__follows, nB__held__follows, nE__held_names, nB__held_names, nE__held_needed, nB__held_needed, nE__held_pairs, nB__held_pairs, nE_names__follows, nB_names__follows, nE_names__held, nB_names__held, nE_names_needed, nB_names_needed, nE_names_pairs, nB_names_pairs, nE_needed__follows, nB_needed__follows, nE_needed__held, nB_needed__held, nE_needed_names, nB_needed_names, nE_needed_pairs, nB_needed_pairs, nE_pairs__follows, nB_pairs__follows, nE_pairs__held, nB_pairs__held, nE_pairs_names, nB_pairs_names, nE_pairs_needed, nB_pairs_needed, go_lam, go_xf, go_gotP, go_allGotP, go_seqN, go_lxd, go_lxl, go_lxt, go_lxs, go_inTd, go_frzT, go_lcK, go_nlcK, go_dcK, go_kSort, go_kList, go_methXN, go_nlistD, go_putT, go_entDt, go_ownT, go_asgT, go_dcT, go_sortL, go_sortSet, go_nlc, go_retO, go_retE, go_callXN, go_appN, go_nsplit, go_forRet, go_dirty, go_cmethX, go_cmethNX, go_makeVX, go_addO, isLst_lst, go_neOwnL, go_par3VOO, go_methVX, go_augI, go_cval, go_lal, go_lat, go_las, dw1, dw2, List.isEmpty_nil, List.isEmpty_cons, strip_var, strip1_val, strip1_own, strip1_none, strip_nil, strip_val, strip_own, strip_none, go_raise, go_callX, go_callNX, go_smethX, go_methX, go_makeX, go_makeKX, go_inWT, go_inWL, go_inK2, List.lookup_cons, List.lookup_nil, beq_self_eq_true, go_go, go_fld, go_asIns, go_ownFld, go_objE, go_setFld, go_fmt, go_fmtS, go_fmtI, go_joined, go_jsN, go_jsC, go_inK, go_ixK, go_gtup, go_glst, setAll_nil, setAll_cons, go_make, go_makeK, go_meth, go_prop, go_smeth, go_smethN, isRaw_self, go_isiC, isiC_ins, isiC_str, isiC_non, go_eqOwn, go_neOwn, go_reprOwn, strOrIns_str, strOrIns_ins, putD, go_and, go_var, go_val, go_own, go_c, go_op, go_un, go_nil, go_cons, go_cb, go_tup, go_lst, go_test, go_asBl, go_asInt, go_asStr, go_some, go_dand, go_dor, go_dnot, go_ifE, go_andV, go_orV, go_notV, go_iT, go_iF, go_next, go_if, go_ret, go_retN, go_brk, go_cont, go_drop, go_asg, go_gname, go_gpair, go_II, go_IC, go_addI, go_addS, go_addL, go_mulI, go_mulS, go_mulL, go_is, go_isnot, go_inS, go_inL, go_inT, go_ninS, go_eqbl, go_nebl, go_eqint, go_neint, go_isi, go_isi2, go_len, go_lenS, go_lenL, go_lenT, go_int1, go_intb, go_abs, go_max, go_min, go_lol, go_lot, go_tol, go_tot, go_all, go_any, go_ixL, go_ixT, go_ixS, go_noPart, go_part, go_sl, go_slL, go_slS, go_chain, go_lenSet, go_sl2, go_sl2L, go_tabG, go_tupBls, go_lenOwn, go_inOwn, go_eqNon, go_split, go_join, go_walk, go_rng1, go_rng2, go_zip, go_zipL, go_zipT, go_enum, go_enumL, go_lc, go_for, go_call, go_callN, go_asgO, go_nlst, go_nlo, go_append, go_entOwn, go_ownE, go_dxE, go_dxIf, go_asgX, go_popAt, go_pop, go_setIx, go_freeze, frz_own, frz_val, go_parVV, go_parOV, go_parVO, go_parOO, go_neg, dirt, D.flat, tyName, D.isNon, D.sign, D.toV, toVs, D.walked, D.items, strsOf, isD, isD2, inG, dstart, List.map, List.length, List.replicate, List.append, List.cons_append, List.nil_append, List.append_nil, List.getElem?_cons_zero, List.getElem?_cons_succ, List.set_cons_zero, List.set_cons_succ, Option.bind_some, Option.bind_none, if_true, if_false, Bool.false_eq_true, Bool.true_and, Bool.and_true, Bool.false_and, Bool.and_false, Bool.or_false, Bool.false_or, Bool.true_or, Bool.or_true, Bool.not_true, Bool.not_false, reduceIte, decide_true, decide_false, Nat.reduceAdd, Nat.reduceSub, Nat.zero_add, true_and, and_true,  ty_NoneType_str, ty_NoneType_int, ty_NoneType_bool, ty_NoneType_list, ty_NoneType_tuple, ty_bool_str, ty_bool_int, ty_bool_bool, ty_bool_list, ty_bool_tuple, ty_int_str, ty_int_int, ty_int_bool, ty_int_list, ty_int_tuple, ty_str_str, ty_str_int, ty_str_bool, ty_str_list, ty_str_tuple, ty_list_str, ty_list_int, ty_list_bool, ty_list_list, ty_list_tuple, ty_tuple_str, ty_tuple_int, ty_tuple_bool, ty_tuple_list, ty_tuple_tuple]); (try simp only [go_done])))
local macro_rules | `(tactic| walk_at "q0") => `(tactic| ((refine go_out ?_); (simp only [go_gname, go_gpair, List.set_cons_zero, List.set_cons_succ]); (try simp only [go_done])))

def top (i : Nat) : Stmt := PySem.Challenge.pw_pairbinds_k09_whole_fewest_ties.main.body.getD i (.Pass ⟨0, 0, 0, 0⟩)
def madeOf (x : Str) (cs : Str) (m : Int) : Bool := !(decide ((x.length : Int) < 1) || decide ((x.length : Int) > m)) && x.cps.toList.all fun k => decide (k ∈ cs.cps.toList)
/-- an argument that a test may be asked of -/
def okArg : D → Prop
  | .str x => x.length ≤ sizeLine
  | .ins _ _ => False
  | .raw _ => False
  | .lam _ => False
  | .dk _ => False
  | .dt _ => False
  | _ => True
def madeD (d : D) (cs : Str) (m : Int) : Bool := match d with
  | .str x => madeOf x cs m
  | _ => false
theorem asBls_all (ks : List Nat) (p : Nat → Bool) : asBls (ks.map fun k => D.bl (p k)) = some (ks.map p) := by
  have := asBls_map (ks.map p)
  rw [List.map_map] at this
  exact this
def sSIGNS : Str := "!#&*+,-./:;<=>?\x40[]^{|}"
def sLETTERS : Str := "abcdefghijklmnopqrstuvwxyz"
theorem atI_mem {α : Type} {xs : List α} {k : Int} (h0 : 0 ≤ k) (h1 : k < (xs.length : Int)) : ∃ x, x ∈ xs ∧ atI xs k = some x := by
  have hk : k.toNat < xs.length := by omega
  refine ⟨xs[k.toNat], List.getElem_mem _, ?_⟩
  unfold atI ixN
  rw [if_pos h0, if_pos h1]
  show xs[k.toNat]? = _
  exact List.getElem?_eq_getElem hk
theorem pos_len {α : Type} {xs : List α} (h : xs ≠ []) : 0 < xs.length := List.length_pos_iff.mpr h
/-- one sign of cs -/
def signOf (cs : Str) (d : D) : Prop := ∃ k, k ∈ cs.cps.toList ∧ d = .str ⟨#[k]⟩
theorem signs_list {cs : Str} : ∀ {ds : List D}, (∀ d, d ∈ ds → signOf cs d) → ∃ ks : List Nat, ks.length = ds.length ∧ ds = ks.map (fun k => D.str ⟨#[k]⟩) ∧ ∀ k, k ∈ ks → k ∈ cs.cps.toList
  | [], _ => ⟨[], rfl, rfl, fun k h => by simp at h⟩
  | d :: ds, h => by
    obtain ⟨k, hk, rfl⟩ := h d List.mem_cons_self
    obtain ⟨ks, h0, h1, h2⟩ := signs_list fun e he => h e (List.mem_cons_of_mem _ he)
    refine ⟨k :: ks, by rw [List.length_cons, List.length_cons, h0], by rw [h1]; rfl, fun j hj => ?_⟩
    rcases List.mem_cons.mp hj with rfl | hj
    · exact hk
    · exact h2 j hj
theorem asStrs_signs (ks : List Nat) : asStrs (ks.map fun k => D.str ⟨#[k]⟩) = some (ks.map fun k => (⟨#[k]⟩ : Str)) := by
  have := asStrs_map (ks.map fun k => (⟨#[k]⟩ : Str))
  rw [List.map_map] at this
  exact this
theorem sum_ones (ks : List Nat) : ((ks.map fun k => (⟨#[k]⟩ : Str)).map (·.length)).sum = ks.length := by
  induction ks with
  | nil => rfl
  | cons k r ih =>
    simp only [List.map_cons, List.sum_cons, List.length_cons, ih]
    have : (⟨#[k]⟩ : Str).length = 1 := rfl
    omega
/-- the end of a join of signs -/
theorem join_end {cs : Str} {ds : List D} {P : Str → Prop} (h : ∀ d, d ∈ ds → signOf cs d) (hl : ds.length ≤ 1000000) (q : ∀ z : Str, z.length = ds.length → among z cs → P z) :
    ∃ ys, asStrs ds = some ys ∧ (ys.map (·.length)).sum + ys.length * (Str.ofString "").length ≤ 16777216 ∧ P (Txt.join (Str.ofString "") ys) := by
  obtain ⟨ks, h0, rfl, h2⟩ := signs_list h
  refine ⟨_, asStrs_signs ks, ?_, ?_⟩
  · rw [sum_ones]
    have e : (Str.ofString "").length = 0 := by decide +kernel
    rw [e, List.length_map] at *
    omega
  · rw [join_signs]
    refine q _ ?_ fun k hk => h2 k (by simpa using hk)
    show ks.toArray.size = _
    rw [List.size_toArray, List.length_map]
theorem lenSMALL : sLETTERS.cps.toList.length = 26 := by decide +kernel
theorem lenSIGNS : sSIGNS.cps.toList.length = 22 := by decide +kernel
theorem okSMALL : PyData.strOk sLETTERS = true := by decide +kernel
theorem okSIGNS : PyData.strOk sSIGNS = true := by decide +kernel
theorem walk_signs {cs : Str} (hne : cs.cps.toList ≠ []) : (cs.cps.toList.map fun k => D.str ⟨#[k]⟩) ≠ [] := fun e => hne (List.map_eq_nil_iff.mp e)
theorem sign_mem {cs : Str} {d : D} (h : d ∈ cs.cps.toList.map fun k => D.str ⟨#[k]⟩) : signOf cs d := by
  obtain ⟨k, hk, e⟩ := List.mem_map.mp h
  exact ⟨k, hk, e.symm⟩
theorem lc_signs {i : Nat} {de : DE} {vs : List Nat} {ρ : DEnv} {x cs : Str} {Pd : D → Prop} (hx : x.length ≤ sizeLine)
    (h : ∀ (k : Nat) (Q : D → Bool → Prop), Q (.bl (decide (k ∈ cs.cps.toList))) false → de ((dwipe ρ vs).set i (some (Ent.val (.str ⟨#[k]⟩)))) Q) (hP : Pd (.bl (x.cps.toList.all fun k => decide (k ∈ cs.cps.toList)))) :
    lcGo (dGName i) (fun _ P => P true) de vs ρ [] (x.cps.toList.map fun k => D.str ⟨#[k]⟩) fun acc => dAll [.lst acc] Pd := by
  refine lcGo_name (fun d => match d.sign with | some k => .bl (decide (k ∈ cs.cps.toList)) | none => .non) _ _ (fun y hy Q q => ?_) ?_ ?_
  · obtain ⟨k, _, rfl⟩ := List.mem_map.mp hy
    exact h k Q q
  · have hl := len_list x
    rw [List.length_map, hl]
    show 0 + x.length ≤ sizeLine
    omega
  · rw [List.map_map, List.nil_append]
    have e2 : (List.map ((fun d : D => match d.sign with | some k => D.bl (decide (k ∈ cs.cps.toList)) | none => .non) ∘ fun k => D.str ⟨#[k]⟩) x.cps.toList) = x.cps.toList.map fun k => D.bl (decide (k ∈ cs.cps.toList)) := rfl
    rw [e2]
    show optP (asBls _) _
    rw [asBls_all]
    have e3 : (x.cps.toList.map fun k => decide (k ∈ cs.cps.toList)).all id = x.cps.toList.all fun k => decide (k ∈ cs.cps.toList) := by
      rw [List.all_map]; rfl
    show Pd (.bl _)
    rw [e3]
    exact hP
/-- a sign in a text -/
theorem in_sign {k : Nat} {cs : Str} {P : D → Prop} (q : P (.bl (decide (k ∈ cs.cps.toList)))) : dInG false (.str ⟨#[k]⟩) (.str cs) P := q
def isWordL (d : D) : Bool := madeD d sSIGNS 3 || madeD d sLETTERS 8
/-- the statements of a law behind the making of its bag -/
theorem law_rest {K : PySem.W.Frag} {c : Fm} {H1 : Hp} {b : Addr × Addr} {a : Addr} {Q : VK} {ts : TS} {ds : DS} {D : Ends} {σ : L2.St} {n : Nat} (q : ∀ H', Q (.bl true) H') (h : SimS K c H1 ts ds) (hc : c = Fm.law b) (_hb : b.1 ≠ b.2) (hB : BagAt [b.1] H1 b)
    (hσ : σ = some (.ref a) :: some (.ref b.1) :: List.replicate n none) (hd : ds { nx := fun _ => False, rt := fun d => d = .bl true } (none :: some (Ent.val (.raw (.ref b.1))) :: List.replicate n none)) (hD : D.rt = Q := by rfl) : ts D σ H1 := by
  subst hc hσ
  refine h _ _ hd [] _ H1 D (but H1 (Fm.law b).M) ⟨hB, hB, Ex.refl _, fun a h => by simp at h, fun a h => by simp at h, ?_, fun i d e => ?_, fun i es e => ?_, fun i j es fs p e => ?_, fun _ _ _ hm _ => nomatch (show (none : Option Addr) = some _ from hm)⟩ (by rw [List.append_nil]; exact Grow.refl _) ⟨fun _ _ _ _ z => z.elim, fun v d H z i e r => ?_, fun _ _ _ _ z => z.elim, fun _ _ _ _ z => z.elim⟩
  · rw [List.length_cons, List.length_cons, List.length_cons, List.length_cons, List.length_replicate, List.length_replicate]
  · match i, e with
    | 0, e => cases e
    | 1, e => cases e; exact ⟨_, rfl, rfl⟩
    | i + 2, e =>
      simp only [List.getElem?_cons_succ, List.getElem?_replicate] at e
      split at e <;> cases e
  · match i, e with
    | 0, e => cases e
    | 1, e => cases e
    | i + 2, e =>
      simp only [List.getElem?_cons_succ, List.getElem?_replicate] at e
      split at e <;> cases e
  · match i, e with
    | 0, e => cases e
    | 1, e => cases e
    | i + 2, e =>
      simp only [List.getElem?_cons_succ, List.getElem?_replicate] at e
      split at e <;> cases e
  · subst z
    rw [show v = .bl true from r, hD]
    exact q H
def okB (d : D) : Bool := (match d with | .str x => decide (x.length ≤ 1000) | .ins _ _ => false | .raw _ => false | .lam _ => false | .dk _ => false | .dt _ => false | _ => true) && pl d && decide (dep d ≤ 2)
theorem okB_arg {d : D} (h : okB d = true) : okArg d := by
  unfold okB at h
  simp only [Bool.and_eq_true] at h
  cases d with
  | str x =>
    have h1 := of_decide_eq_true h.1.1
    have : sizeLine = 16777216 := sizeLine_eq
    show x.length ≤ sizeLine
    omega
  | ins _ _ => cases h.1.1
  | raw _ => cases h.1.1
  | lam _ => cases h.1.1
  | dk _ => cases h.1.1
  | dt _ => cases h.1.1
  | non => exact True.intro
  | bl _ => exact True.intro
  | int _ => exact True.intro
  | lst _ => exact True.intro
  | tup _ => exact True.intro
theorem okB_str {x : Str} (h1 : PyData.strOk x = true) (h2 : x.length ≤ 1000) : okB (.str x) = true := by
  have h3 : decide (x.length ≤ 1000000) = true := decide_eq_true (by omega)
  have h4 : decide (x.length ≤ 1000) = true := decide_eq_true h2
  show (decide (x.length ≤ 1000) && (PyData.strOk x && decide (x.length ≤ 1000000)) && decide (0 ≤ 2)) = true
  rw [h1, h3, h4]
  rfl
theorem strOk_cut {z : Str} (h : PyData.strOk z = true) (lo hi : Option Int) : PyData.strOk (cutS z lo hi) = true := by
  unfold PyData.strOk at h ⊢
  rw [← Array.all_toList] at h ⊢
  refine List.all_eq_true.mpr fun k hk => List.all_eq_true.mp h k ?_
  unfold cutS at hk
  exact List.mem_of_mem_drop (List.mem_of_mem_take (by simpa using hk))
theorem mulOk {z : Str} {n : Int} (h : (decide (z.length ≤ 1000) && decide (0 ≤ n) && decide (n ≤ 1000)) = true) : MulOk z n := by
  simp only [Bool.and_eq_true, decide_eq_true_eq] at h
  obtain ⟨⟨h1, h2⟩, h3⟩ := h
  refine ⟨?_, fun h4 _ h5 => ?_, fun _ _ => ?_⟩
  · rw [Bool.or_eq_false_iff]
    exact ⟨decide_eq_false (by omega), decide_eq_false (by omega)⟩
  · have : (1000 : Int) ≤ (2 ^ 63 - 1) / n := (Int.le_ediv_iff_mul_le (by omega)).mpr (by omega)
    omega
  · unfold Builtin.Str.tooLong
    have : sizeLine = 16777216 := sizeLine_eq
    have h6 : n.toNat ≤ 1000 := by omega
    have : z.length * n.toNat ≤ 1000 * 1000 := Nat.mul_le_mul h1 h6
    exact decide_eq_false (by omega)
theorem len_rangeD {lo : Int} {n : Nat} : (rangeD lo n).length = n := by unfold rangeD; rw [List.length_map, List.length_range]
theorem made_false {x cs : Str} {m : Int} (h : ¬ (1 ≤ (x.length : Int) ∧ (x.length : Int) ≤ m)) : madeD (.str x) cs m = false := by
  show madeOf x cs m = false
  unfold madeOf
  have : (decide ((x.length : Int) < 1) || decide ((x.length : Int) > m)) = true := by
    rw [Bool.or_eq_true, decide_eq_true_eq, decide_eq_true_eq]
    omega
  rw [this]
  rfl
theorem made_true {x cs : Str} {m : Int} (h : 1 ≤ (x.length : Int) ∧ (x.length : Int) ≤ m) : madeD (.str x) cs m = x.cps.toList.all fun k => decide (k ∈ cs.cps.toList) := by
  show madeOf x cs m = _
  unfold madeOf
  have : (decide ((x.length : Int) < 1) || decide ((x.length : Int) > m)) = false := by
    rw [Bool.or_eq_false_iff, decide_eq_false_iff_not, decide_eq_false_iff_not]
    omega
  rw [this]
  rfl
theorem asg_cut {e : DE} {i : Nat} {Dd : DEnds} {ρ : DEnv} (S : D → Prop) (h1 : ∀ P : D → Bool → Prop, (∀ d, S d → P d false) → e ρ P) (h2 : ∀ d, S d → Dd.nx (ρ.set i (some (Ent.val d)))) : dAsg e (dGName i) Dd ρ := h1 _ fun d hd => ⟨rfl, h2 d hd⟩
theorem seq_asg_cut {e : DE} {i : Nat} {B : DS} {Dd : DEnds} {ρ : DEnv} (S : D → Prop) (h1 : ∀ P : D → Bool → Prop, (∀ d, S d → P d false) → e ρ P) (h2 : ∀ d, S d → B Dd (ρ.set i (some (Ent.val d)))) : dSeq (dAsg e (dGName i)) B Dd ρ := h1 _ fun d hd => ⟨rfl, h2 d hd⟩
def isShort (n : Nat) (d : D) : Bool := match d with | .str s => PyData.strOk s && decide (s.length ≤ n) | _ => false
def shortStr (n : Nat) (d : D) : Prop := ∃ s, d = .str s ∧ PyData.strOk s = true ∧ s.length ≤ n
theorem isShort_of {n : Nat} {d : D} (h : isShort n d = true) : shortStr n d := by
  cases d with
  | str s =>
    simp only [isShort, Bool.and_eq_true] at h
    exact ⟨s, rfl, h.1, of_decide_eq_true h.2⟩
  | _ => cases h
theorem of_all {α : Type} {p : α → Bool} {xs : List α} {d : α} (hd : d ∈ xs) (h : xs.all p = true) : p d = true := List.all_eq_true.mp h d hd
theorem short_mem {n : Nat} {xs : List D} {d : D} (hd : d ∈ xs) (h : xs.all (isShort n) = true) : shortStr n d := isShort_of (of_all hd h)
theorem sl16 {n : Nat} (h : n ≤ 1000000) : n ≤ sizeLine := Nat.le_trans h (by decide)
theorem sl16' {n : Nat} (h : n ≤ 1000000) : n < sizeLine := Nat.lt_of_le_of_lt h (by decide)
theorem okB_pl {d : D} (h : okB d = true) : pl d = true ∧ dep d ≤ 2 := by
  unfold okB at h
  simp only [Bool.and_eq_true, decide_eq_true_eq] at h
  exact ⟨h.1.2, h.2⟩
theorem optP_of {α : Type} {o : Option α} {a : α} {P : α → Prop} (e : o = some a) (h : P a) : optP o P := by rw [e]; exact h
theorem empty_app (t : Str) : Str.empty ++ t = t := by
  cases t with
  | mk c => show (⟨#[] ++ c⟩ : Str) = ⟨c⟩; simp
theorem ite_f {c : Prop} [Decidable c] {p q : Prop} (h : ¬ c) (k : q) : if c then p else q := by rw [if_neg h]; exact k
theorem ite_t {c : Prop} [Decidable c] {p q : Prop} (h : c) (k : p) : if c then p else q := by rw [if_pos h]; exact k
theorem seq_par_cut {a b : DE} {i j : Nat} {B : DS} {Dd : DEnds} {ρ : DEnv} (S : D → D → Prop) (h1 : ∀ P : D → D → Prop, (∀ x y, S x y → P x y) → a ρ fun x c1 => b ρ fun y c2 => (c1 = false ∧ c2 = false) ∧ P x y)
    (h2 : ∀ x y, S x y → B Dd ((ρ.set i (some (Ent.val x))).set j (some (Ent.val y)))) : dSeq (dParVV i j a b) B Dd ρ := h1 _ h2
theorem pl_str {x : Str} (h1 : PyData.strOk x = true) (h2 : x.length ≤ 1000000) : pl (.str x) = true := by
  show (PyData.strOk x && decide (x.length ≤ 1000000)) = true
  rw [h1, decide_eq_true h2]
  rfl
theorem ite_dC {c : Prop} [Decidable c] {x y : D} {ρ : DEnv} {P : D → Bool → Prop} (h : P (if c then x else y) false) : if c then dC x ρ P else dC y ρ P := by
  by_cases e : c
  · rw [if_pos e] at h ⊢; exact h
  · rw [if_neg e] at h ⊢; exact h
theorem plsC {d : D} {r : List D} (h : pl d = true) (k : pls r = true) : pls (d :: r) = true := by
  show (pl d && pls r) = true
  rw [h, k]
  rfl
theorem plL {ds : List D} (h : ds.length ≤ 1000000) (k : pls ds = true) : pl (.lst ds) = true := by
  show (decide (ds.length ≤ 1000000) && pls ds) = true
  rw [decide_eq_true h, k]
  rfl
theorem plB {b : Bool} : pl (.bl b) = true := rfl
theorem among_app {a b cs : Str} (ha : among a cs) (hb : among b cs) : among (a ++ b) cs := fun k hk => by
  rw [Str.cps_append, Array.toList_append] at hk
  exact (List.mem_append.mp hk).elim (ha k) (hb k)
theorem dNe_of {x y : D} {P : D → Prop} (h : dEq x y fun z => match z with | .bl b => P (.bl (!b)) | _ => False) : dNe x y P := by
  unfold dEq at h
  unfold dNe
  split at h
  · exact h
  · exact h.elim
theorem okArg_str {x : Str} (h : x.length ≤ 1000000) : okArg (.str x) := sl16 h
/-! shapes -/
def wsOk (ws : List Str) : Prop := ws ≠ [] ∧ ws.length ≤ 4 ∧ ∀ w ∈ ws, isWordL (.str w) = true
def shOk (pre post : Bool) (ws : List Str) : Prop := wsOk ws ∧ ws.Nodup ∧ (pre = false → post = false → 2 ≤ ws.length)
def kindS (pre post : Bool) : Str := if pre then (if post then "infix" else "postfix") else (if post then "prefix" else "closed")
def outerD (pre post : Bool) (n : Int) : List D := (if pre then [.int 0] else []) ++ (if post then [.int (n - 1)] else [])
def shapeF (pre post : Bool) (ws : List Str) : List (Str × D) := [("text", .str (formedS pre post ws)), ("kind", .str (kindS pre post)), ("_parts", .tup ((partsOf pre post ws).map D.str)), ("_words", .tup (ws.map D.str)), ("_holes", .int (holesOf pre post ws))]
theorem lks_text {a b : Bool} {ws : List Str} : List.lookup ("text" : Str) (shapeF a b ws) = some (D.str (formedS a b ws)) := (rfl)
theorem lks_kind {a b : Bool} {ws : List Str} : List.lookup ("kind" : Str) (shapeF a b ws) = some (D.str (kindS a b)) := (rfl)
theorem lks_words {a b : Bool} {ws : List Str} : List.lookup ("_words" : Str) (shapeF a b ws) = some (D.tup (ws.map D.str)) := (rfl)
theorem lks_holes {a b : Bool} {ws : List Str} : List.lookup ("_holes" : Str) (shapeF a b ws) = some (D.int (holesOf a b ws)) := (rfl)
theorem made_word {w : Str} {cs : Str} {m : Int} (h : madeD (.str w) cs m = true) : 1 ≤ w.length ∧ (w.length : Int) ≤ m ∧ among w cs := by
  have h : madeOf w cs m = true := h
  unfold madeOf at h
  simp only [Bool.and_eq_true, Bool.not_eq_true', Bool.or_eq_false_iff, decide_eq_false_iff_not, List.all_eq_true] at h
  refine ⟨by have := h.1.1; omega, by have := h.1.2; omega, fun k hk => ?_⟩
  have := h.2 k hk
  simpa using this
theorem atI_zero {α : Type} {a : α} {r : List α} : atI (a :: r) 0 = some a := by
  unfold atI ixN
  simp
theorem word_facts {w : Str} (h : isWordL (.str w) = true) : PyData.strOk w = true ∧ 1 ≤ w.length ∧ w.length ≤ 8 ∧ w ≠ hU ∧ 32 ∉ TL.tl w := by
  have key : ∀ (cs : Str) (m : Int), m ≤ 8 → PyData.strOk cs = true → 95 ∉ cs.cps.toList → 32 ∉ cs.cps.toList → madeD (.str w) cs m = true → PyData.strOk w = true ∧ 1 ≤ w.length ∧ w.length ≤ 8 ∧ w ≠ hU ∧ 32 ∉ TL.tl w := fun cs m hm h1 h2 h3 h4 => by
    obtain ⟨a, b, c⟩ := made_word h4
    exact ⟨strOk_among c h1, a, by omega, fun e => h2 (c 95 (by rw [e]; decide +kernel)), fun z => h3 (c 32 z)⟩
  unfold isWordL at h
  rcases Bool.or_eq_true_iff.mp h with h | h
  · exact key _ _ (by decide) okSIGNS (by decide +kernel) (by decide +kernel) h
  · exact key _ _ (by decide) okSMALL (by decide +kernel) (by decide +kernel) h
theorem hole_ok : PyData.strOk hU = true := by decide +kernel
theorem parts_head {pre post : Bool} {ws : List Str} (h : wsOk ws) : ∃ a r, partsOf pre post ws = a :: r ∧ PyData.strOk a = true ∧ decide (a = hU) = pre := by
  cases pre with
  | true => exact ⟨hU, _, rfl, hole_ok, by simp⟩
  | false =>
    obtain ⟨h1, _, h3⟩ := h
    cases ws with
    | nil => exact absurd rfl h1
    | cons v r =>
      obtain ⟨a, t, e, ea⟩ := inter_ne (v := v) (r := r)
      have wf := word_facts (h3 v List.mem_cons_self)
      refine ⟨a, t ++ endH post, ?_, by rw [ea]; exact wf.1, by rw [ea]; simpa using wf.2.2.2.1⟩
      show inter (v :: r) ++ endH post = _
      rw [e]
      rfl
theorem ev2_map {α β : Type} (f : α → β) : ∀ (xs : List α), ev2 (xs.map f) = (ev2 xs).map f
  | [] => rfl
  | [a] => rfl
  | a :: b :: r => by
    show f a :: ev2 (r.map f) = f a :: (ev2 r).map f
    rw [ev2_map f r]
theorem atI_last {α : Type} {a : α} {l : List α} : atI (l ++ [a]) (-1) = some a := by
  unfold atI ixN
  rw [if_neg (by decide)]
  simp only [List.length_append, List.length_cons, List.length_nil]
  rw [if_pos (by omega)]
  show (l ++ [a])[_]? = some a
  have e : ∀ z : Int, z = l.length → (l ++ [a])[z.toNat]? = some a := fun z hz => by
    rw [hz]
    simp
  exact e _ (by omega)
theorem inter_snoc : ∀ {ws : List Str}, ws ≠ [] → ∃ l v, inter ws = l ++ [v] ∧ v ∈ ws
  | [], h => absurd rfl h
  | [w], _ => ⟨[], w, rfl, List.mem_cons_self⟩
  | w :: v :: r, _ => by
    obtain ⟨l, u, e, hu⟩ := inter_snoc (ws := v :: r) (by simp)
    exact ⟨w :: hU :: l, u, by show w :: hU :: inter (v :: r) = _; rw [e]; rfl, List.mem_cons_of_mem _ hu⟩
theorem parts_last {pre post : Bool} {ws : List Str} (h : wsOk ws) : ∃ z, atI ((partsOf pre post ws).map D.str) (-1) = some (D.str z) ∧ PyData.strOk z = true ∧ decide (z = hU) = post := by
  cases post with
  | true =>
    refine ⟨hU, ?_, hole_ok, by simp⟩
    have e : partsOf pre true ws = (endH pre ++ inter ws) ++ [hU] := by unfold partsOf; rw [List.append_assoc]; rfl
    rw [e, List.map_append]
    exact atI_last
  | false =>
    obtain ⟨l, v, e, hv⟩ := inter_snoc h.1
    have wf := word_facts (h.2.2 v hv)
    refine ⟨v, ?_, wf.1, by simpa using wf.2.2.2.1⟩
    have e : partsOf pre false ws = (endH pre ++ l) ++ [v] := by unfold partsOf; rw [e, List.append_assoc]; simp [endH]
    rw [e, List.map_append]
    exact atI_last
theorem inter_mem {p : Str} : ∀ {ws : List Str}, p ∈ inter ws → p = hU ∨ p ∈ ws
  | [], h => by simp [inter] at h
  | [w], h => .inr h
  | w :: v :: r, h => by
    have h : p ∈ w :: hU :: inter (v :: r) := h
    rcases List.mem_cons.mp h with rfl | h
    · exact .inr List.mem_cons_self
    rcases List.mem_cons.mp h with rfl | h
    · exact .inl rfl
    · exact (inter_mem h).imp id (List.mem_cons_of_mem _)
theorem endH_mem {b : Bool} {p : Str} (h : p ∈ endH b) : p = hU := by
  cases b with
  | true => exact List.mem_singleton.mp h
  | false => cases h
theorem parts_mem {p : Str} {pre post : Bool} {ws : List Str} (h : p ∈ partsOf pre post ws) : p = hU ∨ p ∈ ws := by
  unfold partsOf at h
  rcases List.mem_append.mp h with h | h
  · exact .inl (endH_mem h)
  rcases List.mem_append.mp h with h | h
  · exact inter_mem h
  · exact .inl (endH_mem h)
theorem parts_ok {p : Str} {pre post : Bool} {ws : List Str} (hw : wsOk ws) (h : p ∈ partsOf pre post ws) : PyData.strOk p = true := by
  rcases parts_mem h with rfl | h
  · exact hole_ok
  · exact (word_facts (hw.2.2 p h)).1
theorem parts_split {pre post : Bool} {ws : List Str} (h : wsOk ws) : Txt.split (formedS pre post ws) (Str.ofString " ") = partsOf pre post ws := by
  rw [← join_parts h.1]
  refine TL.split_join (s := 32) (S := []) (by decide +kernel) (by decide +kernel) ?_ fun p hp => ?_
  · obtain ⟨a, r, e, _⟩ := parts_head (pre := pre) (post := post) h
    rw [e]
    simp
  · rcases parts_mem hp with rfl | hp
    · decide +kernel
    · exact (word_facts (h.2.2 p hp)).2.2.2.2
theorem end_filter {b : Bool} : (endH b).filter (fun p => !decide (p = hU)) = [] := by cases b <;> decide +kernel
theorem inter_filter : ∀ {ws : List Str}, (∀ w ∈ ws, w ≠ hU) → (inter ws).filter (fun p => !decide (p = hU)) = ws
  | [], _ => rfl
  | [w], h => by
    show [w].filter _ = _
    rw [List.filter_cons_of_pos (by simpa using h w List.mem_cons_self)]
    rfl
  | w :: v :: r, h => by
    show (w :: hU :: inter (v :: r)).filter _ = _
    rw [List.filter_cons_of_pos (by simpa using h w List.mem_cons_self), List.filter_cons_of_neg (by simp), inter_filter fun x hx => h x (List.mem_cons_of_mem _ hx)]
theorem parts_filter {pre post : Bool} {ws : List Str} (h : wsOk ws) : (partsOf pre post ws).filter (fun p => !decide (p = hU)) = ws := by
  unfold partsOf
  rw [List.filter_append, List.filter_append, end_filter, end_filter, inter_filter fun w hw => (word_facts (h.2.2 w hw)).2.2.2.1]
  simp
theorem inter_len : ∀ {ws : List Str}, ws ≠ [] → (inter ws).length = ws.length + (ws.length - 1)
  | [], h => absurd rfl h
  | [w], _ => rfl
  | w :: v :: r, _ => by
    show (inter (v :: r)).length + 1 + 1 = r.length + 1 + 1 + (r.length + 1)
    rw [inter_len (by simp)]
    simp only [List.length_cons]
    omega
theorem parts_len {pre post : Bool} {ws : List Str} (h : wsOk ws) : (partsOf pre post ws).length = ws.length + holesOf pre post ws := by
  unfold partsOf holesOf
  rw [List.length_append, List.length_append, inter_len h.1]
  cases pre <;> cases post <;> simp [endH] <;> omega
theorem join_len8 : ∀ {ws : List Str}, (∀ w ∈ ws, w.length ≤ 8) → (Str.join " _ " ws).length ≤ 11 * ws.length
  | [], _ => by decide +kernel
  | [w], h => by
    have := h w List.mem_cons_self
    show w.length ≤ 11 * 1
    omega
  | w :: v :: r, h => by
    have h1 := h w List.mem_cons_self
    have h2 := join_len8 (ws := v :: r) fun x hx => h x (List.mem_cons_of_mem _ hx)
    show (w ++ " _ " ++ Str.join " _ " (v :: r)).length ≤ 11 * (r.length + 1 + 1)
    rw [Str.length_append, Str.length_append]
    have : (" _ " : Str).length = 3 := by decide +kernel
    simp only [List.length_cons] at h2
    omega
theorem form_len {pre post : Bool} {ws : List Str} (h : wsOk ws) : (formedS pre post ws).length ≤ 48 := by
  unfold formedS
  rw [Str.length_append, Str.length_append, TL.join_eq]
  have h1 := join_len8 (ws := ws) fun w hw => (word_facts (h.2.2 w hw)).2.2.1
  have h2 : (if pre then ("_ " : Str) else "").length ≤ 2 := by cases pre <;> decide +kernel
  have h3 : (if post then (" _" : Str) else "").length ≤ 2 := by cases post <;> decide +kernel
  have := h.2.1
  omega
theorem join_ok : ∀ {ws : List Str}, (∀ w ∈ ws, PyData.strOk w = true) → PyData.strOk (Str.join " _ " ws) = true
  | [], _ => by decide +kernel
  | [w], h => h w List.mem_cons_self
  | w :: v :: r, h => by
    show PyData.strOk (w ++ " _ " ++ Str.join " _ " (v :: r)) = true
    exact strOk_app (strOk_app (h w List.mem_cons_self) (by decide +kernel)) (join_ok fun x hx => h x (List.mem_cons_of_mem _ hx))
theorem form_ok {pre post : Bool} {ws : List Str} (h : wsOk ws) : PyData.strOk (formedS pre post ws) = true := by
  unfold formedS
  rw [TL.join_eq]
  refine strOk_app (strOk_app ?_ (join_ok fun w hw => (word_facts (h.2.2 w hw)).1)) ?_
  · cases pre <;> decide +kernel
  · cases post <;> decide +kernel
/-- holes and words by turns -/
def altL : List Str → Prop
  | a :: b :: r => decide (a = hU) ≠ decide (b = hU) ∧ altL (b :: r)
  | _ => True
theorem altL_inter {post : Bool} : ∀ {ws : List Str}, (∀ w ∈ ws, w ≠ hU) → altL (inter ws ++ endH post)
  | [], _ => by cases post <;> exact True.intro
  | [w], h => by
    have := h w List.mem_cons_self
    cases post
    · exact True.intro
    · exact ⟨by simpa using this, True.intro⟩
  | w :: v :: r, h => by
    have h1 := h w List.mem_cons_self
    have h2 := h v (List.mem_cons_of_mem _ List.mem_cons_self)
    have ih := altL_inter (post := post) (ws := v :: r) fun x hx => h x (List.mem_cons_of_mem _ hx)
    obtain ⟨a, t, e, ea⟩ := inter_ne (v := v) (r := r)
    show altL (w :: hU :: (inter (v :: r) ++ endH post))
    rw [e] at ih ⊢
    subst ea
    exact ⟨by simpa using h1, by simpa using h2, ih⟩
theorem altL_parts {pre post : Bool} {ws : List Str} (h : wsOk ws) : altL (partsOf pre post ws) := by
  have hn : ∀ w ∈ ws, w ≠ hU := fun w hw => (word_facts (h.2.2 w hw)).2.2.2.1
  have ih := altL_inter (post := post) hn
  unfold partsOf
  cases pre with
  | false => exact ih
  | true =>
    cases ws with
    | nil => exact absurd rfl h.1
    | cons v r =>
      obtain ⟨a, t, e, ea⟩ := inter_ne (v := v) (r := r)
      show altL (hU :: (inter (v :: r) ++ endH post))
      rw [e] at ih ⊢
      subst ea
      exact ⟨by simpa using hn _ List.mem_cons_self, ih⟩
theorem altL_get : ∀ {ps : List Str} {i : Nat}, altL ps → i + 1 < ps.length → ∃ a b, ps[i]? = some a ∧ ps[i + 1]? = some b ∧ decide (a = hU) ≠ decide (b = hU)
  | [], i, _, h => by simp at h
  | [a], i, _, h => by simp at h
  | a :: b :: r, 0, h, _ => ⟨a, b, rfl, rfl, h.1⟩
  | a :: b :: r, i + 1, h, hl => by
    have := altL_get (ps := b :: r) (i := i) h.2 (by simpa using hl)
    simpa using this
theorem foldK_nodup : ∀ {ks σ : List Str}, (σ ++ ks).Nodup → ks.foldl QD.stepK σ = σ ++ ks
  | [], σ, _ => by simp
  | k :: r, σ, h => by
    have hk : k ∉ σ := fun z => by
      have := (List.nodup_append.mp h).2.2 k z k List.mem_cons_self
      exact this rfl
    have e : QD.stepK σ k = σ ++ [k] := by unfold QD.stepK; rw [if_neg hk]
    rw [List.foldl_cons, e, foldK_nodup (by rw [List.append_assoc]; exact h), List.append_assoc]
    rfl
theorem distK_nodup {ks : List Str} (h : ks.Nodup) : distK ks = ks := by
  unfold distK
  rw [foldK_nodup (by simpa using h)]
  rfl
theorem dEq_strB {x y : Str} {b : Bool} {P : D → Prop} (hx : PyData.strOk x = true) (hy : PyData.strOk y = true) (e : decide (x = y) = b) (q : P (.bl b)) : dEq (.str x) (.str y) P := dEq_str hx hy (by rw [e]; exact q)
theorem toVs_strs : ∀ ws : List Str, toVs (ws.map D.str) = some (ws.map V.str)
  | [] => rfl
  | w :: r => by
    simp only [List.map_cons, toVs, D.toV, toVs_strs r]
theorem inG_strs {x : Str} {ws : List Str} : inG false (.str x) (ws.map D.str) = some (decide (x ∈ ws)) := by
  unfold inG
  rw [toVs_strs]
  show some (inV (.str x) (ws.map V.str)) = _
  congr 1
  unfold inV
  rw [List.any_map, Bool.eq_iff_iff, List.any_eq_true, decide_eq_true_iff]
  constructor
  · rintro ⟨y, hy, h⟩
    have : y = x := by simpa [eqV] using h
    exact this ▸ hy
  · intro h
    exact ⟨x, h, by simp [eqV]⟩
theorem kind_ok {pre post : Bool} : PyData.strOk (kindS pre post) = true := by cases pre <;> cases post <;> decide +kernel
theorem holes_pos {pre post : Bool} {ws : List Str} (h : shOk pre post ws) : 1 ≤ holesOf pre post ws := by
  unfold holesOf
  have := h.2.2
  cases pre <;> cases post <;> simp at this ⊢ <;> omega
theorem lc_strsB {i : Nat} {de : DE} {vs : List Nat} {ρ : DEnv} (ws : List Str) (p : Str → Bool) {P : List D → Prop}
    (h : ∀ w ∈ ws, ∀ Q : D → Bool → Prop, Q (.bl (p w)) false → de ((dwipe ρ vs).set i (some (Ent.val (.str w)))) Q) (hl : ws.length ≤ sizeLine) (hP : P ((ws.map p).map D.bl)) :
    lcGo (dGName i) (fun _ P => P true) de vs ρ [] (ws.map D.str) P := by
  refine lcGo_name (fun d => match d with | .str w => .bl (p w) | _ => .non) _ _ (fun y hy Q q => ?_) (by rw [List.length_map]; show 0 + ws.length ≤ sizeLine; omega) ?_
  · obtain ⟨w, hw, rfl⟩ := List.mem_map.mp hy
    exact h w hw Q q
  · rw [List.map_map, List.nil_append]
    have e2 : List.map ((fun d : D => match d with | .str w => D.bl (p w) | _ => .non) ∘ D.str) ws = (ws.map p).map D.bl := by rw [List.map_map]; rfl
    rw [e2]
    exact hP
theorem all_map_id {α : Type} {xs : List α} {p : α → Bool} (h : ∀ x ∈ xs, p x = true) : (xs.map p).all id = true := by
  rw [List.all_map]
  exact List.all_eq_true.mpr h
theorem sum_le8 : ∀ {ws : List Str}, (∀ w ∈ ws, w.length ≤ 8) → (ws.map (·.length)).sum ≤ 8 * ws.length
  | [], _ => by simp
  | w :: r, h => by
    have h1 := h w List.mem_cons_self
    have h2 := sum_le8 (ws := r) fun x hx => h x (List.mem_cons_of_mem _ hx)
    simp only [List.map_cons, List.sum_cons, List.length_cons]
    omega
theorem seqIx {k : Int} {n : Nat} (h0 : 0 ≤ k) (h1 : k < n) : seqIndex? k n = some k.toNat := by
  unfold seqIndex?
  have e : (if k < 0 then k + (n : Int) else k) = k := if_neg (by omega)
  simp only [e]
  simp [h0, h1]
theorem dNe_nil {xs : List D} {P : D → Prop} (h : pls xs = true) (hd : deps xs ≤ 60) (q : P (.bl (!xs.isEmpty))) : dNe (.lst xs) (.lst []) P := by
  obtain ⟨ps, e1, e2, e3⟩ := pls_py xs h
  have ea : toPy (.lst xs) = some (.list ps) := by simp [toPy, e1]
  have eb : toPy (.lst []) = some (.list []) := by simp [toPy, toPys]
  have hp : xs.isEmpty = ps.isEmpty := by
    cases xs with
    | nil => simp [toPys] at e1; subst e1; rfl
    | cons d r =>
      simp only [toPys] at e1
      split at e1
      · cases e1; rfl
      · cases e1
  unfold dNe
  rw [ea, eb]
  refine ⟨⟨?_, by decide +kernel⟩, ?_⟩
  · show (PyData.canLay0 (.list ps) && decide (PyData.depth (.list ps) ≤ 64)) = true
    simp only [PyData.canLay0, PyData.depth, e2, e3, Bool.true_and, decide_eq_true_iff]
    omega
  · have e4 : PyData.eqv (.list ps) (.list []) = ps.isEmpty := by
      cases ps <;> simp [PyData.eqv, PyData.eqvAll]
    rw [e4, ← hp]
    exact q
theorem holes_le {pre post : Bool} {ws : List Str} (h : ws.length ≤ 4) : holesOf pre post ws ≤ 6 := by
  unfold holesOf
  cases pre <;> cases post <;> simp <;> omega
theorem formed_eq {pre post : Bool} {ws : List Str} : formedS pre post ws = if pre then (if post then Str.ofString "_ " ++ Txt.join (Str.ofString " _ ") ws ++ Str.ofString " _" else Str.ofString "_ " ++ Txt.join (Str.ofString " _ ") ws) else (if post then Txt.join (Str.ofString " _ ") ws ++ Str.ofString " _" else Txt.join (Str.ofString " _ ") ws) := by
  have e : Str.ofString "" = Str.empty := by decide +kernel
  cases pre <;> cases post
  · show Str.ofString "" ++ _ ++ Str.ofString "" = _
    rw [emp_app, e, Str.append_empty]
    rfl
  · show Str.ofString "" ++ _ ++ _ = _
    rw [emp_app]
    rfl
  · show Str.ofString "_ " ++ _ ++ Str.ofString "" = _
    rw [e, Str.append_empty]
    rfl
  · rfl
theorem join_len4 {ws : List Str} (h : wsOk ws) : (Txt.join (Str.ofString " _ ") ws).length ≤ 48 := by
  have := form_len (pre := false) (post := false) h
  rw [formed_eq] at this
  exact this
theorem rangeD_mem {x : D} {n : Nat} (h : x ∈ rangeD 0 n) : ∃ k : Nat, k < n ∧ x = .int k := by
  unfold rangeD at h
  obtain ⟨k, hk, rfl⟩ := List.mem_map.mp h
  exact ⟨k, List.mem_range.mp hk, by simp⟩
theorem atI_nat {α : Type} {xs : List α} {k : Int} {j : Nat} {a : α} (e : k = j) (h : xs[j]? = some a) : atI xs k = some a := by
  have hl := (List.getElem?_eq_some_iff.mp h).1
  unfold atI ixN
  rw [if_pos (by omega), if_pos (by omega)]
  show xs[k.toNat]? = some a
  rw [e]
  exact h
theorem perm_eraseIdx {α : Type} : ∀ {l : List α} {k : Nat} (hk : k < l.length), (l[k] :: l.eraseIdx k).Perm l
  | a :: r, 0, _ => .refl _
  | a :: r, k + 1, hk => by
    have hk : k < r.length := by simpa using hk
    have ih := perm_eraseIdx (l := r) (k := k) hk
    show (r[k] :: a :: r.eraseIdx k).Perm (a :: r)
    exact (List.Perm.swap _ _ _).trans (ih.cons a)
theorem rangeD_get {x : D} {n i : Nat} (h : (rangeD 0 n)[i]? = some x) : i < n ∧ x = .int i := by
  unfold rangeD at h
  rw [List.getElem?_map] at h
  obtain ⟨k, hk, rfl⟩ := Option.map_eq_some_iff.mp h
  obtain ⟨h1, h2⟩ := List.getElem?_eq_some_iff.mp hk
  rw [List.length_range] at h1
  rw [List.getElem_range] at h2
  subst h2
  exact ⟨h1, by simp⟩
/-- drawn signs in a drawn order -/
theorem perm_signs {cs : Str} {ys : List D} (h : ys.Perm (signsD cs)) (hn : cs.cps.toList.Nodup) : ∃ sg : List Nat, ys = sg.map (fun k => D.str ⟨#[k]⟩) ∧ sg.Nodup ∧ sg.length = cs.cps.toList.length ∧ ∀ k ∈ sg, k ∈ cs.cps.toList := by
  obtain ⟨ks, h1, h2, h3⟩ := signs_list (cs := cs) (ds := ys) fun d hd => sign_mem (h.mem_iff.mp hd)
  have hl := h.length_eq
  rw [List.length_map] at hl
  refine ⟨ks, h2, ?_, by rw [h1, hl], h3⟩
  have hnd : (signsD cs).Nodup := by
    refine List.Pairwise.map _ (fun a b hab e => hab ?_) hn
    injection e with e
    injection e with e
    simpa using e
  have := h.nodup_iff.mpr hnd
  rw [h2] at this
  exact List.Pairwise.of_map _ (fun a b hab e => hab (by rw [e])) this
theorem nodSIGNS : sSIGNS.cps.toList.Nodup := by decide +kernel
theorem nodSMALL : sLETTERS.cps.toList.Nodup := by decide +kernel
theorem sign_letter : ∀ k ∈ sSIGNS.cps.toList, k ∉ sLETTERS.cps.toList := by decide +kernel
theorem pls_signs {cs : Str} (h : PyData.strOk cs = true) : pls (signsD cs) = true := pls_of fun d hd => by
  obtain ⟨k, hk, rfl⟩ := List.mem_map.mp hd
  refine pl_str ?_ (by show 1 ≤ 1000000; decide)
  unfold PyData.strOk at h ⊢
  rw [← Array.all_toList] at h ⊢
  exact List.all_eq_true.mpr fun j hj => by
    have : j = k := by simpa using hj
    exact List.all_eq_true.mp h j (this ▸ hk)
theorem deps_signs {cs : Str} : deps (signsD cs) ≤ 60 := deps_le fun d hd => by
  obtain ⟨k, hk, rfl⟩ := List.mem_map.mp hd
  exact Nat.zero_le _
theorem join_codes (ks : List Nat) : Txt.join (Str.ofString "") (ks.map fun k => (⟨#[k]⟩ : Str)) = ⟨ks.toArray⟩ := join_signs ks
theorem join_room (ks : List Nat) (h : ks.length ≤ 1000000) : ((ks.map fun k => (⟨#[k]⟩ : Str)).map (·.length)).sum + (ks.map fun k => (⟨#[k]⟩ : Str)).length * (Str.ofString "").length ≤ 16777216 := by
  rw [sum_ones]
  have e : (Str.ofString "").length = 0 := by decide +kernel
  rw [e]
  omega
/-- the j-th word begins with the j-th sign or the j-th letter -/
def headAt (sg lt : List Nat) (j : Nat) (w : Str) : Prop := ∃ k r, w.cps.toList = k :: r ∧ (sg[j]? = some k ∨ lt[j]? = some k)
/-- two words that begin with other signs -/
def headNe (u v : Str) : Prop := u.cps.toList.head? ≠ v.cps.toList.head?
theorem heads_differ {sg lt : List Nat} {ws : List Str} (h1 : sg.Nodup) (h2 : lt.Nodup) (h3 : ∀ k ∈ sg, k ∉ lt) (h : ∀ j w, ws[j]? = some w → headAt sg lt j w) : ws.Pairwise headNe := by
  have uniq : ∀ {xs : List Nat} {i j k : Nat}, xs.Nodup → xs[i]? = some k → xs[j]? = some k → i = j := fun {xs i j k} hn hi hj => by
    obtain ⟨li, ei⟩ := List.getElem?_eq_some_iff.mp hi
    obtain ⟨lj, ej⟩ := List.getElem?_eq_some_iff.mp hj
    have hp := List.pairwise_iff_getElem.mp hn
    rcases Nat.lt_trichotomy i j with h | h | h
    · exact absurd (ei.trans ej.symm) (hp i j li lj h)
    · exact h
    · exact absurd (ej.trans ei.symm) (hp j i lj li h)
  refine List.pairwise_iff_getElem.mpr fun i j hi hj hij e => ?_
  obtain ⟨k, r, e1, h4⟩ := h i _ (List.getElem?_eq_getElem hi)
  obtain ⟨k', r', e2, h5⟩ := h j _ (List.getElem?_eq_getElem hj)
  rw [e1, e2] at e
  injection e with e
  subst e
  rcases h4 with h4 | h4 <;> rcases h5 with h5 | h5
  · have := uniq h1 h4 h5; omega
  · exact h3 _ (List.mem_of_getElem? h4) (List.mem_of_getElem? h5)
  · exact h3 _ (List.mem_of_getElem? h5) (List.mem_of_getElem? h4)
  · have := uniq h2 h4 h5; omega
theorem nodup_heads {ws : List Str} (h : ws.Pairwise headNe) : ws.Nodup := h.imp fun hab e => hab (by rw [e])
theorem no_more {ws : List Str} {w t : Str} (h : ws.Pairwise headNe) (hw : w ∈ ws) (h1 : 1 ≤ w.length) (ht : 1 ≤ t.length) : w ++ t ∉ ws := fun hm => by
  obtain ⟨i, hi, ei⟩ := List.getElem_of_mem hw
  obtain ⟨j, hj, ej⟩ := List.getElem_of_mem hm
  have hh : (w ++ t).cps.toList.head? = w.cps.toList.head? := by
    rw [Str.cps_append, Array.toList_append]
    have : w.cps.toList ≠ [] := fun e => by
      have := len_list w
      rw [e] at this
      simp at this
      omega
    cases e : w.cps.toList with
    | nil => exact absurd e this
    | cons a r => rfl
  have hp := List.pairwise_iff_getElem.mp h
  rcases Nat.lt_trichotomy i j with hij | hij | hij
  · have := hp i j hi hj hij
    rw [ei, ej] at this
    exact this hh.symm
  · subst hij
    have e : w = w ++ t := ei.symm.trans ej
    have := congrArg Str.length e
    rw [Str.length_append] at this
    omega
  · have := hp j i hj hi hij
    rw [ei, ej] at this
    exact this hh
theorem form_no_word {pre post : Bool} {ws : List Str} (h : shOk pre post ws) : formedS pre post ws ∉ ws := fun hm => by
  have h1 := parts_split (pre := pre) (post := post) h.1
  have h2 := word_facts (h.1.2.2 _ hm)
  have h3 : Txt.split (Txt.join (Str.ofString " ") [formedS pre post ws]) (Str.ofString " ") = [formedS pre post ws] := TL.split_join (s := 32) (S := []) (by decide +kernel) (by decide +kernel) (by simp) fun p hp => by
    rw [List.mem_singleton.mp hp]
    exact h2.2.2.2.2
  rw [TL.join_eq] at h3
  have h4 : partsOf pre post ws = [formedS pre post ws] := h1.symm.trans h3
  have h5 := parts_len (pre := pre) (post := post) h.1
  have h6 := holes_pos h
  have h7 := pos_len h.1.1
  rw [h4] at h5
  simp at h5
  omega
theorem cut_all {xs : List D} {n : Nat} (h : xs.length ≤ n) : cutD xs none (some (n : Int)) = xs := by
  unfold cutD
  rw [HT.sIx_nat, HT.sIx_none, Nat.min_eq_right h, List.drop_zero]
  exact List.take_of_length_le (by omega)
theorem plT {ds : List D} (h : ds.length ≤ 1000000) (k : pls ds = true) : pl (.tup ds) = true := by
  show (decide (ds.length ≤ 1000000) && pls ds) = true
  rw [decide_eq_true h, k]
  rfl
theorem pls_strs {ws : List Str} (h : ∀ w ∈ ws, PyData.strOk w = true ∧ w.length ≤ 1000000) : pls (ws.map D.str) = true := pls_of fun d hd => by
  obtain ⟨w, hw, rfl⟩ := List.mem_map.mp hd
  exact pl_str (h w hw).1 (h w hw).2
theorem deps_strs {ws : List Str} : deps (ws.map D.str) = 0 := Nat.le_zero.mp (deps_le fun d hd => by
  obtain ⟨w, hw, rfl⟩ := List.mem_map.mp hd
  exact Nat.le_refl _)
theorem len_mapI {α β : Type} {f : α → β} {xs : List α} : (((xs.map f).length : Nat) : Int) = (xs.length : Int) := by rw [List.length_map]
theorem plW {ws : List Str} (h : wsOk ws) : pls (ws.map D.str) = true := pls_strs fun w hw => ⟨(word_facts (h.2.2 w hw)).1, by have := (word_facts (h.2.2 w hw)).2.2.1; omega⟩
theorem pl_outer {pre post : Bool} {n : Int} : pls (outerD pre post n) = true := by cases pre <;> cases post <;> rfl
theorem dep_outer {pre post : Bool} {n : Int} : deps (outerD pre post n) = 0 := by cases pre <;> cases post <;> rfl
theorem kind_len {pre post : Bool} : (kindS pre post).length ≤ 1000000 := by cases pre <;> cases post <;> decide +kernel
theorem outer_len {pre post : Bool} {n : Int} : (outerD pre post n).length ≤ 1000000 := by cases pre <;> cases post <;> simp [outerD]
theorem kinds4 {d : D} (hd : d ∈ [D.str (Str.ofString "closed"), D.str (Str.ofString "prefix"), D.str (Str.ofString "postfix"), D.str (Str.ofString "infix")]) : ∃ pre post, d = .str (kindS pre post) := by
  simp only [List.mem_cons, List.not_mem_nil, or_false] at hd
  rcases hd with rfl | rfl | rfl | rfl
  · exact ⟨false, false, rfl⟩
  · exact ⟨false, true, rfl⟩
  · exact ⟨true, false, rfl⟩
  · exact ⟨true, true, rfl⟩
theorem zz_word : isWordL (.str (Str.ofString "zzzz")) = true := by decide +kernel
theorem deps_reps {n : Nat} {d : D} (h : dep d = 0) : deps (List.replicate n d) = 0 := Nat.le_zero.mp (deps_le fun e he => by rw [(List.mem_replicate.mp he).2, h]; exact Nat.le_refl _)
theorem pls_app {xs ys : List D} (h : pls xs = true) (k : pls ys = true) : pls (xs ++ ys) = true := pls_of fun d hd => (List.mem_append.mp hd).elim (pls_mem h d) (pls_mem k d)
theorem deps_app {xs ys : List D} {n : Nat} (h : deps xs ≤ n) (k : deps ys ≤ n) : deps (xs ++ ys) ≤ n := deps_le fun d hd => (List.mem_append.mp hd).elim (fun z => Nat.le_trans (deps_mem z) h) (fun z => Nat.le_trans (deps_mem z) k)
theorem pls_reps {n : Nat} {d : D} (h : pl d = true) : pls (List.replicate n d) = true := pls_of fun e he => by rw [(List.mem_replicate.mp he).2, h]
theorem show_nat {n : Nat} (h : n ≤ 1000) : showD (.int (n : Int)) = true := by
  show decide ((n : Int).natAbs.log2 < 1920) = true
  have : (n : Int).natAbs.log2 ≤ n := by
    rw [Int.natAbs_natCast]
    exact Nat.log2_le_self n
  exact decide_eq_true (by omega)
theorem strs_list {p : Str → Prop} : ∀ {ds : List D}, (∀ d ∈ ds, ∃ x, d = .str x ∧ p x) → ∃ xs : List Str, ds = xs.map D.str ∧ ∀ x ∈ xs, p x
  | [], _ => ⟨[], rfl, fun _ h => by simp at h⟩
  | d :: r, h => by
    obtain ⟨x, rfl, hx⟩ := h d List.mem_cons_self
    obtain ⟨xs, rfl, hs⟩ := strs_list fun e he => h e (List.mem_cons_of_mem _ he)
    exact ⟨x :: xs, rfl, fun y hy => (List.mem_cons.mp hy).elim (fun e => e ▸ hx) (hs y)⟩
theorem joinS_ok {y : Str} (hy : PyData.strOk y = true) : ∀ {ws : List Str}, (∀ w ∈ ws, PyData.strOk w = true) → PyData.strOk (Txt.join y ws) = true := by
  suffices h : ∀ ws : List Str, (∀ w ∈ ws, PyData.strOk w = true) → PyData.strOk (Str.join y ws) = true by
    intro ws hw
    rw [TL.join_eq]
    exact h ws hw
  intro ws
  induction ws with
  | nil => intro _; exact (show PyData.strOk Str.empty = true by decide +kernel)
  | cons w r ih =>
    intro h
    cases r with
    | nil => exact h w List.mem_cons_self
    | cons v r =>
      show PyData.strOk (w ++ y ++ Str.join y (v :: r)) = true
      exact strOk_app (strOk_app (h w List.mem_cons_self) hy) (ih fun x hx => h x (List.mem_cons_of_mem _ hx))
theorem joinS_len {y : Str} {n : Nat} (hy : y.length ≤ 8) : ∀ {ws : List Str}, (∀ w ∈ ws, w.length ≤ n) → (Txt.join y ws).length ≤ (n + 8) * ws.length := by
  suffices h : ∀ ws : List Str, (∀ w ∈ ws, w.length ≤ n) → (Str.join y ws).length ≤ (n + 8) * ws.length by
    intro ws hw
    rw [TL.join_eq]
    exact h ws hw
  intro ws
  induction ws with
  | nil => intro _; exact Nat.zero_le _
  | cons w r ih =>
    intro h
    have h1 := h w List.mem_cons_self
    cases r with
    | nil =>
      show w.length ≤ (n + 8) * 1
      omega
    | cons v r =>
      have h2 := ih fun x hx => h x (List.mem_cons_of_mem _ hx)
      show (w ++ y ++ Str.join y (v :: r)).length ≤ (n + 8) * (r.length + 1 + 1)
      rw [Str.length_append, Str.length_append, Nat.mul_add]
      simp only [List.length_cons] at h2
      omega
theorem seq_cut {A B : DS} {Dd : DEnds} {ρ : DEnv} (S : DEnv → Prop) (h1 : ∀ N : DEnv → Prop, (∀ ρ', S ρ' → N ρ') → A { Dd with nx := N } ρ) (h2 : ∀ ρ', S ρ' → B Dd ρ') : dSeq A B Dd ρ := h1 _ h2
theorem pl2T {a b : D} (h1 : pl a = true) (h2 : pl b = true) : pl (.tup [a, b]) = true := by simp [pl, pls, h1, h2]
theorem pl1T {a : D} (h1 : pl a = true) : pl (.tup [a]) = true := by simp [pl, pls, h1]
/-! texts that may be no shapes -/
def headH (ps : List Str) : Bool := decide (ps.head? = some hU)
def holesP (ps : List Str) : List Str := if headH ps then ev2 ps else ev2 (ps.drop 1)
def wordsP (ps : List Str) : List Str := if headH ps then ev2 (ps.drop 1) else ev2 ps
def shP (ps : List Str) : Prop := holesP ps ≠ [] ∧ wordsP ps ≠ [] ∧ (wordsP ps).length ≤ 4 ∧ (∀ h ∈ holesP ps, h = hU) ∧ (∀ w ∈ wordsP ps, isWordL (.str w) = true) ∧ (wordsP ps).Nodup
abbrev cutB (x : Str) : List Str := Txt.split x (Str.ofString " ")
theorem cut_join (x : Str) : Str.join (Str.ofString " ") (cutB x) = x := PySem.StrLaws.join_split x _
theorem cut_ne (x : Str) : cutB x ≠ [] := fun e => by
  have h := cut_join x
  rw [e] at h
  have h : x = Str.empty := h.symm
  subst h
  exact absurd e (by decide +kernel)
theorem join_mem {y p : Str} {k : Nat} : ∀ {l : List Str}, p ∈ l → k ∈ p.cps.toList → k ∈ (Str.join y l).cps.toList
  | [q], hp, hk => by rw [← List.mem_singleton.mp hp]; exact hk
  | q :: r :: t, hp, hk => by
    show k ∈ (q ++ y ++ Str.join y (r :: t)).cps.toList
    rw [Str.cps_append, Str.cps_append, Array.toList_append, Array.toList_append]
    rcases List.mem_cons.mp hp with rfl | hp
    · exact List.mem_append_left _ (List.mem_append_left _ hk)
    · exact List.mem_append_right _ (join_mem hp hk)
theorem join_long {y p : Str} : ∀ {l : List Str}, p ∈ l → p.length ≤ (Str.join y l).length
  | [q], hp => by rw [← List.mem_singleton.mp hp]; exact Nat.le_refl _
  | q :: r :: t, hp => by
    show p.length ≤ (q ++ y ++ Str.join y (r :: t)).length
    rw [Str.length_append, Str.length_append]
    rcases List.mem_cons.mp hp with rfl | hp
    · omega
    · have := join_long (y := y) hp
      omega
theorem join_many {y : Str} (hy : y.length = 1) : ∀ {l : List Str}, l.length ≤ (Str.join y l).length + 1
  | [] => Nat.zero_le _
  | [q] => by show 1 ≤ _; omega
  | q :: r :: t => by
    have := join_many hy (l := r :: t)
    show (r :: t).length + 1 ≤ (q ++ y ++ Str.join y (r :: t)).length + 1
    rw [Str.length_append, Str.length_append]
    omega
theorem cut_ok {x p : Str} (hx : PyData.strOk x = true) (hp : p ∈ cutB x) : PyData.strOk p = true := strOk_among (cs := x) (fun k hk => by
  have := join_mem (y := Str.ofString " ") hp hk
  rw [cut_join] at this
  exact this) hx
theorem cut_len {x p : Str} (hp : p ∈ cutB x) : p.length ≤ x.length := by
  have := join_long (y := Str.ofString " ") hp
  rw [cut_join] at this
  exact this
theorem cut_many (x : Str) : (cutB x).length ≤ x.length + 1 := by
  have := join_many (y := Str.ofString " ") (by decide +kernel) (l := cutB x)
  rw [cut_join] at this
  exact this
/-- holes at every other place, from the first if b -/
def alts : Bool → List Str → Prop
  | _, [] => True
  | b, p :: r => decide (p = hU) = b ∧ alts (!b) r
theorem alts_ev : ∀ {b : Bool} {l : List Str}, alts b l → (∀ p ∈ ev2 l, decide (p = hU) = b) ∧ ∀ p ∈ ev2 (l.drop 1), decide (p = hU) = !b
  | _, [], _ => ⟨fun _ h => by simp [ev2] at h, fun _ h => by simp [ev2] at h⟩
  | b, p :: r, h => by
    obtain ⟨h1, h2⟩ := alts_ev h.2
    rw [ev2_cons]
    refine ⟨fun q hq => ?_, fun q hq => h1 q hq⟩
    rcases List.mem_cons.mp hq with rfl | hq
    · exact h.1
    · have := h2 q hq
      rwa [Bool.not_not] at this
theorem alts_of_ev : ∀ {b : Bool} {l : List Str}, (∀ p ∈ ev2 l, decide (p = hU) = b) → (∀ p ∈ ev2 (l.drop 1), decide (p = hU) = !b) → alts b l
  | _, [], _, _ => True.intro
  | b, p :: r, h1, h2 => by
    rw [ev2_cons] at h1
    exact ⟨h1 p List.mem_cons_self, alts_of_ev (b := !b) h2 fun q hq => by rw [Bool.not_not]; exact h1 q (List.mem_cons_of_mem _ hq)⟩
theorem alts_filter : ∀ {b : Bool} {l : List Str}, alts b l → l.filter (fun p => !decide (p = hU)) = if b then ev2 (l.drop 1) else ev2 l
  | b, [], _ => by cases b <;> rfl
  | b, p :: r, h => by
    have ih := alts_filter h.2
    rw [ev2_cons]
    cases b with
    | true =>
      rw [List.filter_cons_of_neg (by rw [h.1]; decide), ih]
      rfl
    | false =>
      rw [List.filter_cons_of_pos (by rw [h.1]; rfl), ih]
      rfl
theorem alts_parts : ∀ {b : Bool} {l : List Str}, alts b l → (if b then ev2 (l.drop 1) else ev2 l) ≠ [] → ∃ post, l = endH b ++ (inter (if b then ev2 (l.drop 1) else ev2 l) ++ endH post)
  | true, [], _, hn => absurd rfl hn
  | false, [], _, hn => absurd rfl hn
  | true, p :: r, h, hn => by
    have hp : p = hU := of_decide_eq_true h.1
    obtain ⟨post, e⟩ := alts_parts (b := false) (l := r) h.2 hn
    refine ⟨post, ?_⟩
    subst hp
    exact congrArg (hU :: ·) e
  | false, [w], h, _ => ⟨false, rfl⟩
  | false, w :: p :: r, h, _ => by
    have hp : p = hU := of_decide_eq_true h.2.1
    subst hp
    show ∃ post, w :: hU :: r = [] ++ (inter (w :: ev2 r) ++ endH post)
    cases r with
    | nil => exact ⟨true, rfl⟩
    | cons v t =>
      obtain ⟨post, e⟩ := alts_parts (b := false) (l := v :: t) h.2.2 (by show ev2 (v :: t) ≠ []; rw [ev2_cons]; simp)
      refine ⟨post, ?_⟩
      have e : v :: t = inter (ev2 (v :: t)) ++ endH post := e
      rw [List.nil_append]
      show w :: hU :: (v :: t) = _
      rw [ev2_cons] at e ⊢
      show w :: hU :: (v :: t) = w :: hU :: (inter (v :: ev2 (t.drop 1)) ++ endH post)
      rw [← e]
theorem shP_alts {ps : List Str} (h : shP ps) : alts (headH ps) ps := by
  obtain ⟨h1, h2, h3, h4, h5, h6⟩ := h
  have hw : ∀ w ∈ wordsP ps, decide (w = hU) = false := fun w hm => decide_eq_false (word_facts (h5 w hm)).2.2.2.1
  have hh : ∀ w ∈ holesP ps, decide (w = hU) = true := fun w hm => decide_eq_true (h4 w hm)
  unfold holesP at hh
  unfold wordsP at hw
  cases hb : headH ps with
  | true =>
    rw [hb] at hw hh
    exact alts_of_ev hh hw
  | false =>
    rw [hb] at hw hh
    exact alts_of_ev hw hh
theorem shP_form {x : Str} (h : shP (cutB x)) : ∃ pre post ws, shOk pre post ws ∧ x = formedS pre post ws := by
  have ha := shP_alts h
  obtain ⟨h1, h2, h3, h4, h5, h6⟩ := h
  obtain ⟨post, e⟩ := alts_parts ha h2
  have e : cutB x = partsOf (headH (cutB x)) post (wordsP (cutB x)) := e
  have hw : wsOk (wordsP (cutB x)) := ⟨h2, h3, h5⟩
  refine ⟨headH (cutB x), post, wordsP (cutB x), ⟨hw, h6, fun e1 e2 => ?_⟩, ?_⟩
  · rw [e1, e2] at e
    have hl : holesP (cutB x) ≠ [] := h1
    unfold holesP at hl
    rw [e1] at hl
    have hl : ev2 ((cutB x).drop 1) ≠ [] := hl
    have e3 : cutB x = inter (wordsP (cutB x)) ++ [] := e
    cases hws : wordsP (cutB x) with
    | nil => exact absurd hws h2
    | cons w r =>
      cases r with
      | nil =>
        rw [hws] at e3
        rw [e3] at hl
        exact absurd rfl hl
      | cons v t => simp
  · have := cut_join x
    rw [e, ← TL.join_eq, join_parts hw.1] at this
    exact this.symm
theorem shP_of {pre post : Bool} {ws : List Str} (h : shOk pre post ws) : shP (cutB (formedS pre post ws)) := by
  have hs : cutB (formedS pre post ws) = partsOf pre post ws := parts_split h.1
  obtain ⟨a, r, e, ha, hp⟩ := parts_head (pre := pre) (post := post) h.1
  have hh : headH (partsOf pre post ws) = pre := by
    unfold headH
    rw [e, ← hp]
    exact decide_eq_decide.mpr ⟨fun z => Option.some.inj z, fun z => congrArg some z⟩
  have e1 : wordsP (partsOf pre post ws) = ws := by
    unfold wordsP
    rw [hh]
    have := partsOf_words (pre := pre) (post := post) h.1.1
    cases pre <;> exact this
  have e2 : holesP (partsOf pre post ws) = List.replicate (holesOf pre post ws) hU := by
    unfold holesP
    rw [hh]
    have := partsOf_holes (pre := pre) (post := post) h.1.1
    cases pre <;> exact this
  rw [hs]
  unfold shP
  rw [e1, e2]
  refine ⟨fun z => ?_, h.1.1, h.1.2.1, fun x hx => (List.mem_replicate.mp hx).2, h.1.2.2, h.2.1⟩
  have := congrArg List.length z
  rw [List.length_replicate] at this
  have := holes_pos h
  simp at *
  omega
/-- what the law asks of a text's parts is enough -/
theorem shP_law {ps : List Str} (hne : ps ≠ []) (ha : altL ps) (hw : ∀ w ∈ ps.filter (fun p => !decide (p = hU)), isWordL (.str w) = true) (h1 : 1 ≤ (ps.filter fun p => !decide (p = hU)).length) (h4 : (ps.filter fun p => !decide (p = hU)).length ≤ 4) (hn : (ps.filter fun p => !decide (p = hU)).Nodup)
    (hl : (ps.filter fun p => !decide (p = hU)).length ≠ ps.length) : shP ps := by
  have key : ∀ {l : List Str}, altL l → alts (headH l) l := by
    intro l
    induction l with
    | nil => intro _; exact True.intro
    | cons p r ih =>
      intro h
      have e0 : headH (p :: r) = decide (p = hU) := decide_eq_decide.mpr ⟨fun z => Option.some.inj z, fun z => congrArg some z⟩
      rw [e0]
      cases r with
      | nil => exact ⟨rfl, True.intro⟩
      | cons q t =>
        have e1 : headH (q :: t) = decide (q = hU) := decide_eq_decide.mpr ⟨fun z => Option.some.inj z, fun z => congrArg some z⟩
        have := ih h.2
        rw [e1] at this
        refine ⟨rfl, ?_⟩
        have hne : decide (q = hU) = !decide (p = hU) := by
          have := h.1
          revert this
          cases decide (p = hU) <;> cases decide (q = hU) <;> simp
        rw [← hne]
        exact this
  have al := key ha
  have hf := alts_filter al
  have ev := alts_ev al
  have hf : ps.filter (fun p => !decide (p = hU)) = wordsP ps := hf
  rw [hf] at hw h1 h4 hn hl
  refine ⟨fun z => ?_, fun z => by rw [z] at h1; simp at h1, h4, fun h hh => ?_, hw, hn⟩
  · have hall : ∀ p ∈ ps, p ≠ hU := fun p hp e => by
      have hin : p ∈ ev2 ps ∨ p ∈ ev2 (ps.drop 1) := by
        have mem : ∀ {l : List Str}, p ∈ l → p ∈ ev2 l ∨ p ∈ ev2 (l.drop 1) := by
          intro l
          induction l with
          | nil => intro h; simp at h
          | cons a r ih =>
            intro h
            rw [ev2_cons]
            rcases List.mem_cons.mp h with rfl | h
            · exact .inl List.mem_cons_self
            · exact (ih h).symm.imp (List.mem_cons_of_mem _) id
        exact mem hp
      unfold holesP at z
      cases hb : headH ps with
      | true =>
        rw [hb] at z ev
        have z : ev2 ps = [] := z
        cases ps with
        | nil => exact absurd rfl hne
        | cons a r => rw [ev2_cons] at z; cases z
      | false =>
        rw [hb] at z ev
        have z : ev2 (ps.drop 1) = [] := z
        rcases hin with hin | hin
        · have := ev.1 p hin
          rw [decide_eq_true e] at this
          cases this
        · rw [z] at hin; simp at hin
    apply hl
    rw [← hf, List.filter_eq_self.mpr fun p hp => by simpa using hall p hp]
  · unfold holesP at hh
    cases hb : headH ps with
    | true =>
      rw [hb] at hh ev
      exact of_decide_eq_true (ev.1 h hh)
    | false =>
      rw [hb] at hh ev
      have := ev.2 h hh
      simpa using this
def isShD : D → Prop
  | .str x => shP (cutB x)
  | _ => False
def okG (d : D) : Bool := okB d && showD d
theorem okG_B {d : D} (h : okG d = true) : okB d = true := (Bool.and_eq_true_iff.mp h).1
theorem okG_err {d : D} (h : okG d = true) {f code : Str} {P : List (Str × D) → Prop} (q : P [("code", .str code), (f, d)]) : dtErr [f] code 3 [d] P := by
  obtain ⟨h1, h2⟩ := Bool.and_eq_true_iff.mp h
  obtain ⟨h3, h4⟩ := okB_pl h1
  exact dtErr_1 h3 (by omega) h2 q
theorem okB_text {x : Str} (h : okB (.str x) = true) : PyData.strOk x = true ∧ x.length ≤ 1000 := by
  have h : (decide (x.length ≤ 1000) && (PyData.strOk x && decide (x.length ≤ 1000000)) && decide (0 ≤ 2)) = true := h
  simp only [Bool.and_eq_true, decide_eq_true_eq] at h
  exact ⟨h.1.2.1, h.1.1⟩
theorem okG_str {x : Str} (h1 : PyData.strOk x = true) (h2 : x.length ≤ 1000) : okG (.str x) = true := by
  unfold okG
  rw [okB_str h1 h2]
  show (PyData.strOk x && decide (x.length ≤ 1000)) = true
  rw [h1, decide_eq_true h2]
  rfl
theorem ev2_sub {α : Type} {p : α} : ∀ {l : List α}, p ∈ ev2 l → p ∈ l
  | a :: r, h => by
    rw [ev2_cons] at h
    rcases List.mem_cons.mp h with rfl | h
    · exact List.mem_cons_self
    · exact List.mem_cons_of_mem _ (List.mem_of_mem_drop (ev2_sub h))
  termination_by l => l.length
  decreasing_by simp; omega
theorem ev2_len {α : Type} : ∀ {l : List α}, (ev2 l).length ≤ l.length
  | [] => Nat.le_refl _
  | a :: r => by
    rw [ev2_cons, List.length_cons, List.length_cons]
    have := ev2_len (l := r.drop 1)
    rw [List.length_drop] at this
    omega
  termination_by l => l.length
  decreasing_by simp; omega
theorem holesP_sub {ps : List Str} {p : Str} (h : p ∈ holesP ps) : p ∈ ps := by
  unfold holesP at h
  split at h
  · exact ev2_sub h
  · exact List.mem_of_mem_drop (ev2_sub h)
theorem wordsP_sub {ps : List Str} {p : Str} (h : p ∈ wordsP ps) : p ∈ ps := by
  unfold wordsP at h
  split at h
  · exact List.mem_of_mem_drop (ev2_sub h)
  · exact ev2_sub h
theorem holesP_len {ps : List Str} : (holesP ps).length ≤ ps.length := by
  unfold holesP
  have := ev2_len (l := ps)
  have := ev2_len (l := ps.drop 1)
  rw [List.length_drop] at this
  split <;> omega
theorem wordsP_len {ps : List Str} : (wordsP ps).length ≤ ps.length := by
  unfold wordsP
  have := ev2_len (l := ps)
  have := ev2_len (l := ps.drop 1)
  rw [List.length_drop] at this
  split <;> omega
theorem nodup_dist : ∀ {ks : List Str}, (distK ks).length = ks.length → ks.Nodup := by
  intro ks h
  by_cases hn : ks.Nodup
  · exact hn
  · exfalso
    have key : ∀ (l σ : List Str), ¬ l.Nodup → (l.foldl QD.stepK σ).length < σ.length + l.length := by
      intro l
      induction l with
      | nil => intro σ h; exact absurd List.nodup_nil h
      | cons v r ih =>
        intro σ h
        have hs := stepK_len (σ := σ) (v := v)
        have le : ∀ (l σ : List Str), (l.foldl QD.stepK σ).length ≤ σ.length + l.length := by
          intro l
          induction l with
          | nil => intro σ; simp
          | cons v r ih =>
            intro σ
            have h1 := ih (QD.stepK σ v)
            have h2 := stepK_len (σ := σ) (v := v)
            simp only [List.foldl_cons, List.length_cons]
            split at h2 <;> omega
        have lt : ∀ (l σ : List Str), (∃ w, w ∈ σ ∧ w ∈ l) → (l.foldl QD.stepK σ).length < σ.length + l.length := by
          intro l
          induction l with
          | nil => intro σ h; obtain ⟨w, _, h⟩ := h; simp at h
          | cons v r ih =>
            intro σ h
            obtain ⟨w, h1, h2⟩ := h
            have h3 := stepK_len (σ := σ) (v := v)
            simp only [List.foldl_cons, List.length_cons]
            rcases List.mem_cons.mp h2 with rfl | h2
            · rw [if_pos h1] at h3
              have := le r (QD.stepK σ w)
              omega
            · have := ih (QD.stepK σ v) ⟨w, stepK_mem.mpr (.inl h1), h2⟩
              split at h3 <;> omega
        simp only [List.foldl_cons, List.length_cons]
        by_cases hv : v ∈ r
        · have := lt r (QD.stepK σ v) ⟨v, stepK_mem.mpr (.inr rfl), hv⟩
          split at hs <;> omega
        · have := ih (QD.stepK σ v) fun z => h (List.nodup_cons.mpr ⟨hv, z⟩)
          split at hs <;> omega
    have := key ks [] hn
    unfold distK at h
    rw [h] at this
    simp at this
theorem cutS_len {z : Str} {lo hi : Option Int} : (cutS z lo hi).length ≤ z.length := by
  rw [← len_list, ← len_list]
  unfold cutS
  simp only [List.toList_toArray, List.length_take, List.length_drop]
  omega
theorem seq_asgO_cut {dn : DN} {i : Nat} {B : DS} {Dd : DEnds} {ρ : DEnv} (S : List D → Prop) (h1 : ∀ P : List D → Prop, (∀ ds, S ds → P ds) → dn ρ P) (h2 : ∀ ds, S ds → B Dd (ρ.set i (some (Ent.own (.lst ds))))) : dSeq (dAsgO dn i) B Dd ρ := h1 _ h2
theorem dirty_cut {i j : Nat} {s : Str} {dt dt2 : DT} {de : DE} {db dr : DS} {Dd : DEnds} {ρ : DEnv} (S : DEnv → Prop) (h1 : ∀ N : DEnv → Prop, (∀ ρ', S ρ' → N ρ') → dDirty i j s dt de dt2 db (fun _ => N) Dd ρ) (h2 : ∀ ρ', S ρ' → dr Dd ρ') : dDirty i j s dt de dt2 db dr Dd ρ := h1 _ h2

/-! names, pairs of names, ways by them -/
def nameS (t : Str) : Prop := 1 ≤ t.length ∧ t.length ≤ 8 ∧ among t sLETTERS
theorem nameS_made {t : Str} (h : nameS t) : madeD (.str t) sLETTERS 8 = true := by
  rw [made_true ⟨by have := h.1; omega, by have := h.2.1; omega⟩]
  exact List.all_eq_true.mpr fun k hk => decide_eq_true (h.2.2 k hk)
theorem nameS_ok {t : Str} (h : nameS t) : PyData.strOk t = true := strOk_among h.2.2 okSMALL
theorem nameS_pl {t : Str} (h : nameS t) : pl (.str t) = true := pl_str (nameS_ok h) (by have := h.2.1; omega)
theorem nameS_arg {t : Str} (h : nameS t) : okArg (.str t) := okArg_str (by have := h.2.1; omega)
def prsOk (ps : List Pr) : Prop := ∀ p ∈ ps, nameS p.1 ∧ nameS p.2
theorem pl_pD {p : Pr} (h : nameS p.1 ∧ nameS p.2) : pl (pD p) = true := plT (by simp) (plsC (nameS_pl h.1) (plsC (nameS_pl h.2) rfl))
theorem pls_pairs {ps : List Pr} (h : prsOk ps) : pls (ps.map pD) = true := pls_of fun d hd => by
  obtain ⟨p, hp, rfl⟩ := List.mem_map.mp hd
  exact pl_pD (h p hp)
theorem deps_pairs {ps : List Pr} : deps (ps.map pD) ≤ 1 := deps_le fun d hd => by
  obtain ⟨p, hp, rfl⟩ := List.mem_map.mp hd
  simp [pD, dep, deps]
inductive Way (E : List Pr) : Str → Str → Prop
  | one {a b : Str} : (a, b) ∈ E → Way E a b
  | more {a b c : Str} : (a, b) ∈ E → Way E b c → Way E a c
theorem Way.trans {E : List Pr} {a b c : Str} (h : Way E a b) : Way E b c → Way E a c := by
  induction h with
  | one e => exact fun k => .more e k
  | more e _ ih => exact fun k => .more e (ih k)
theorem Way.mono {E F : List Pr} (h : ∀ a b, (a, b) ∈ E → Way F a b) {a b : Str} (w : Way E a b) : Way F a b := by
  induction w with
  | one e => exact h _ _ e
  | more e _ ih => exact (h _ _ e).trans ih
def trn (C : List Pr) : Prop := ∀ a b c, (a, b) ∈ C → (b, c) ∈ C → (a, c) ∈ C
theorem Way.into {E C : List Pr} (h : ∀ p, p ∈ E → p ∈ C) (t : trn C) {a b : Str} (w : Way E a b) : (a, b) ∈ C := by
  induction w with
  | one e => exact h _ e
  | more e _ ih => exact t _ _ _ (h _ e) ih
theorem Way.ends {E : List Pr} {a b : Str} (w : Way E a b) : (∃ x, (a, x) ∈ E) ∧ ∃ x, (x, b) ∈ E := by
  induction w with
  | one e => exact ⟨⟨_, e⟩, _, e⟩
  | more e _ ih => exact ⟨⟨_, e⟩, ih.2⟩
structure IsC (C E : List Pr) : Prop where
  sort : C.Pairwise fun p q => leP p q = true
  nod : C.Nodup
  iff : ∀ a b, (a, b) ∈ C ↔ Way E a b
theorem IsC.uniq {C C' E E' : List Pr} (h : IsC C E) (h' : IsC C' E') (e : ∀ a b, Way E a b ↔ Way E' a b) : C = C' := by
  have hp : C.Perm C' := (List.perm_ext_iff_of_nodup h.nod h'.nod).mpr fun p => by
    have h1 := h.iff p.1 p.2
    have h2 := h'.iff p.1 p.2
    exact h1.trans ((e p.1 p.2).trans h2.symm)
  exact (sortP_of hp h.sort).trans (sortP_of (List.Perm.refl C') h'.sort).symm
theorem IsC.of {C E : List Pr} (nd : C.Nodup) (i : ∀ a b, (a, b) ∈ C ↔ Way E a b) : IsC (sortP C) E where
  sort := sortP_sorted C
  nod := (sortP_perm C).nodup_iff.mpr nd
  iff := fun a b => (sortP_perm C).mem_iff.trans (i a b)
theorem IsC.trn {C E : List Pr} (h : IsC C E) : trn C := fun a b c h1 h2 => (h.iff a c).mpr (((h.iff a b).mp h1).trans ((h.iff b c).mp h2))
theorem IsC.ends {C E : List Pr} (h : IsC C E) {p : Pr} (hp : p ∈ C) : (∃ x, (p.1, x) ∈ E) ∧ ∃ x, (x, p.2) ∈ E := ((h.iff p.1 p.2).mp hp).ends
theorem IsC.ok {C E : List Pr} (h : IsC C E) (ok : prsOk E) : prsOk C := fun p hp => by
  obtain ⟨⟨x, hx⟩, ⟨y, hy⟩⟩ := h.ends hp
  exact ⟨(ok _ hx).1, (ok _ hy).2⟩
theorem IsC.sub {C E : List Pr} (h : IsC C E) {p : Pr} (hp : p ∈ E) : p ∈ C := (h.iff p.1 p.2).mpr (.one hp)
/-- all pairs of some names -/
def allP (ns : List Str) : List Pr := ns.flatMap fun a => ns.map fun b => (a, b)
theorem mem_allP {ns : List Str} {p : Pr} : p ∈ allP ns ↔ p.1 ∈ ns ∧ p.2 ∈ ns := by
  unfold allP
  rw [List.mem_flatMap]
  constructor
  · rintro ⟨a, ha, h⟩
    obtain ⟨b, hb, rfl⟩ := List.mem_map.mp h
    exact ⟨ha, hb⟩
  · rintro ⟨h1, h2⟩
    exact ⟨p.1, h1, List.mem_map.mpr ⟨p.2, h2, rfl⟩⟩
theorem len_flat {α β : Type} {f : α → List β} {n : Nat} : ∀ {l : List α}, (∀ a ∈ l, (f a).length = n) → (l.flatMap f).length = l.length * n
  | [], _ => by simp
  | a :: l, h => by
    rw [List.flatMap_cons, List.length_append, h a List.mem_cons_self, len_flat fun b hb => h b (List.mem_cons_of_mem _ hb), List.length_cons, Nat.add_mul, Nat.one_mul, Nat.add_comm]
theorem len_allP {ns : List Str} : (allP ns).length = ns.length * ns.length := len_flat fun a _ => List.length_map _
theorem few_pairs {ns : List Str} {C : List Pr} (nd : C.Nodup) (h : ∀ p ∈ C, p.1 ∈ ns ∧ p.2 ∈ ns) : C.length ≤ ns.length * ns.length := by
  rw [← len_allP]
  exact nodup_len nd fun p hp => mem_allP.mpr (h p hp)
/-! what a dict of pairs says -/
def putH (hs : List Pr) (p : Pr) : List Pr := if p ∈ hs then hs else hs ++ [p]
theorem mem_putH {hs : List Pr} {p q : Pr} : q ∈ putH hs p ↔ q ∈ hs ∨ q = p := by
  unfold putH
  split
  · rename_i h
    exact ⟨.inl, fun z => z.elim id fun e => e ▸ h⟩
  · simp
theorem nod_putH {hs : List Pr} {p : Pr} (h : hs.Nodup) : (putH hs p).Nodup := by
  unfold putH
  split
  · exact h
  · rename_i hn
    rw [List.nodup_append]
    exact ⟨h, by simp, fun a ha b hb e => hn (by rw [← List.mem_singleton.mp hb, ← e]; exact ha)⟩
theorem hasK_held {hs : List Pr} {p : Pr} : hasK (heldK hs) (pK p) = decide (p ∈ hs) := by
  unfold hasK heldK
  rw [List.any_map]
  apply Bool.eq_iff_iff.mpr
  rw [List.any_eq_true, decide_eq_true_eq]
  constructor
  · rintro ⟨q, hq, e⟩
    have := pK_inj (of_decide_eq_true e)
    exact this ▸ hq
  · exact fun h => ⟨p, h, decide_eq_true rfl⟩
theorem putT_put {hs : List Pr} {p : Pr} : putT (heldK hs) (pK p) (.bl true) = heldK (putH hs p) := by
  unfold putH
  by_cases h : p ∈ hs
  · rw [if_pos h]
    unfold putT
    rw [hasK_held, decide_eq_true h, if_pos rfl]
    unfold heldK
    rw [List.map_map]
    refine List.map_congr_left fun q hq => ?_
    show (if pK q = pK p then (pK q, D.bl true) else (pK q, D.bl true)) = _
    split <;> rfl
  · rw [if_neg h]
    exact putT_held h
theorem len_held {hs : List Pr} : (heldK hs).length = hs.length := List.length_map _
theorem keysD_held {hs : List Pr} : keysD (heldK hs) = hs.map pD := by
  unfold keysD heldK
  rw [List.map_map]
  rfl
/-! == and in of such lists -/
theorem toPys_pairs : ∀ ps : List Pr, toPys (ps.map pD) = some (ps.map pPy)
  | [] => rfl
  | p :: ps => by
    rw [List.map_cons, List.map_cons]
    simp only [toPys, toPys_pairs ps]
    rfl
theorem eqv_pair (p q : Pr) : PyData.eqv (pPy p) (pPy q) = decide (p = q) := by
  apply Bool.eq_iff_iff.mpr
  simp only [pPy, PyData.eqv, PyData.eqvAll, Bool.and_true, Bool.and_eq_true, beq_iff_eq, decide_eq_true_eq]
  exact ⟨fun h => Prod.ext h.1 h.2, fun h => by rw [h]; exact ⟨rfl, rfl⟩⟩
theorem eqv_pairs : ∀ ps qs : List Pr, PyData.eqvAll (ps.map pPy) (qs.map pPy) = decide (ps = qs)
  | [], [] => by simp [PyData.eqvAll]
  | [], q :: qs => by simp [PyData.eqvAll]
  | p :: ps, [] => by simp [PyData.eqvAll]
  | p :: ps, q :: qs => by
    rw [List.map_cons, List.map_cons]
    simp only [PyData.eqvAll]
    rw [eqv_pair, eqv_pairs ps qs]
    apply Bool.eq_iff_iff.mpr
    simp
theorem sh_of {d : D} (h : pl d = true) (hd : dep d ≤ 64) : ∃ p, toPy d = some p ∧ SeqAt.shaped p = true := by
  obtain ⟨p, e1, e2, e3⟩ := pl_py d h
  exact ⟨p, e1, by show (p.canLay0 && decide (p.depth ≤ 64)) = true; rw [e2, e3, decide_eq_true hd]; rfl⟩
theorem dEq_gen {d e : D} {P : D → Prop} (h1 : pl d = true) (h2 : pl e = true) (h3 : dep d ≤ 64) (h4 : dep e ≤ 64) (q : P (.bl (PyData.eqv (pyOf d) (pyOf e)))) : dEq d e P := by
  obtain ⟨p, e1, s1⟩ := sh_of h1 h3
  obtain ⟨r, e2, s2⟩ := sh_of h2 h4
  unfold dEq
  rw [e1, e2]
  refine ⟨⟨s1, s2⟩, ?_⟩
  unfold pyOf at q
  rw [e1, e2] at q
  exact q
theorem dNe_gen {d e : D} {P : D → Prop} (h1 : pl d = true) (h2 : pl e = true) (h3 : dep d ≤ 64) (h4 : dep e ≤ 64) (q : P (.bl (!PyData.eqv (pyOf d) (pyOf e)))) : dNe d e P := by
  obtain ⟨p, e1, s1⟩ := sh_of h1 h3
  obtain ⟨r, e2, s2⟩ := sh_of h2 h4
  unfold dNe
  rw [e1, e2]
  refine ⟨⟨s1, s2⟩, ?_⟩
  unfold pyOf at q
  rw [e1, e2] at q
  exact q
theorem pyOf_pairs (ps : List Pr) : pyOf (.lst (ps.map pD)) = .list (ps.map pPy) := by
  unfold pyOf
  simp only [toPy, toPys_pairs]
  rfl
theorem pl_pairs {ps : List Pr} (h : prsOk ps) (hl : ps.length ≤ 1000000) : pl (.lst (ps.map pD)) = true := plL (by rw [List.length_map]; exact hl) (pls_pairs h)
theorem dep_pairs {ps : List Pr} : dep (.lst (ps.map pD)) ≤ 2 := by
  simp only [dep]
  have := deps_pairs (ps := ps)
  omega
theorem dEq_pairs {ps qs : List Pr} {P : D → Prop} (h1 : prsOk ps) (h2 : prsOk qs) (l1 : ps.length ≤ 1000000) (l2 : qs.length ≤ 1000000) (q : P (.bl (decide (ps = qs)))) : dEq (.lst (ps.map pD)) (.lst (qs.map pD)) P := by
  refine dEq_gen (pl_pairs h1 l1) (pl_pairs h2 l2) (Nat.le_trans dep_pairs (by decide)) (Nat.le_trans dep_pairs (by decide)) ?_
  rw [pyOf_pairs, pyOf_pairs]
  simp only [PyData.eqv]
  rw [eqv_pairs]
  exact q
theorem dNe_pairs {ps qs : List Pr} {P : D → Prop} (h1 : prsOk ps) (h2 : prsOk qs) (l1 : ps.length ≤ 1000000) (l2 : qs.length ≤ 1000000) (q : P (.bl (!decide (ps = qs)))) : dNe (.lst (ps.map pD)) (.lst (qs.map pD)) P := by
  refine dNe_gen (pl_pairs h1 l1) (pl_pairs h2 l2) (Nat.le_trans dep_pairs (by decide)) (Nat.le_trans dep_pairs (by decide)) ?_
  rw [pyOf_pairs, pyOf_pairs]
  simp only [PyData.eqv]
  rw [eqv_pairs]
  exact q
theorem dNe_pD {p r : Pr} {P : D → Prop} (h1 : nameS p.1 ∧ nameS p.2) (h2 : nameS r.1 ∧ nameS r.2) (q : P (.bl (!decide (p = r)))) : dNe (pD p) (pD r) P := by
  refine dNe_gen (pl_pD h1) (pl_pD h2) (by simp [pD, dep, deps]) (by simp [pD, dep, deps]) ?_
  rw [show pyOf (pD p) = pPy p from rfl, show pyOf (pD r) = pPy r from rfl, eqv_pair]
  exact q
theorem inW_pair {p : Pr} {ps : List Pr} (h : prsOk ps) (hp : nameS p.1 ∧ nameS p.2) (hl : ps.length ≤ 1000000) : inW (pD p) (ps.map pD) = some (decide (p ∈ ps)) := by
  obtain ⟨x, e1, s1⟩ := sh_of (pl_pD hp) (by simp [pD, dep, deps])
  obtain ⟨y, e2, s2⟩ := sh_of (pl_pairs h hl) (Nat.le_trans dep_pairs (by decide))
  have e3 : toPy (D.lst (ps.map pD)) = some (.list (ps.map pPy)) := by simp only [toPy, toPys_pairs]; rfl
  have e4 : toPy (pD p) = some (pPy p) := rfl
  rw [e3] at e2
  rw [e4] at e1
  cases e1
  cases e2
  have s3 : SeqAt.shaped (.tuple (ps.map pPy)) = true := by
    have := s2
    simp only [SeqAt.shaped, PyData.canLay0, PyData.depth] at this ⊢
    exact this
  unfold inW
  rw [e4, toPys_pairs]
  simp only [s1, s2, s3, Bool.and_self, if_true]
  congr 1
  rw [List.any_map]
  apply Bool.eq_iff_iff.mpr
  rw [List.any_eq_true, decide_eq_true_eq]
  constructor
  · rintro ⟨q, hq, e⟩
    rw [Function.comp_apply, eqv_pair] at e
    exact (of_decide_eq_true e) ▸ hq
  · intro hm
    exact ⟨p, hm, by rw [Function.comp_apply, eqv_pair]; exact decide_eq_true rfl⟩
theorem in_pair {p : Pr} {ps : List Pr} {P : D → Prop} (h : prsOk ps) (hp : nameS p.1 ∧ nameS p.2) (hl : ps.length ≤ 1000000) (q : P (.bl (decide (p ∈ ps)))) : dInW false (pD p) (.lst (ps.map pD)) P := optP_of (inW_pair h hp hl) q
theorem nin_pair {p : Pr} {ps : List Pr} {P : D → Prop} (h : prsOk ps) (hp : nameS p.1 ∧ nameS p.2) (hl : ps.length ≤ 1000000) (q : P (.bl (!decide (p ∈ ps)))) : dInW true (pD p) (.lst (ps.map pD)) P := optP_of (inW_pair h hp hl) q
theorem ninG_strs {x : Str} {ws : List Str} : inG true (.str x) (ws.map D.str) = some (!decide (x ∈ ws)) := by
  have h := inG_strs (x := x) (ws := ws)
  unfold inG at h ⊢
  rw [toVs_strs] at h ⊢
  have h' : some (inV (.str x) (ws.map V.str)) = some (decide (x ∈ ws)) := h
  injection h' with h'
  show some (!inV (.str x) (ws.map V.str)) = _
  rw [h']
theorem enum_strs {ps : List Str} {i : Nat} {x : D} (h : (enumD (ps.map D.str))[i]? = some x) : ∃ p, ps[i]? = some p ∧ x = .tup [.int (i : Int), .str p] := by
  have hl : (enumD (ps.map D.str)).length = ps.length := by unfold enumD; rw [List.length_map, List.length_range, List.length_map]
  have hi := (List.getElem?_eq_some_iff.mp h).1
  rw [hl] at hi
  unfold enumD at h
  rw [List.getElem?_map, List.getElem?_range (by rw [List.length_map]; exact hi)] at h
  refine ⟨ps[i], List.getElem?_eq_getElem hi, ?_⟩
  have h := Option.some.inj h
  rw [← h]
  show D.tup [D.int (i : Int), (ps.map D.str).getD i .non] = _
  rw [List.getD_eq_getElem?_getD, List.getElem?_map, List.getElem?_eq_getElem hi]
  rfl
theorem cut_take {α : List D} {n : Nat} (h : n ≤ α.length) : cutD α none (some (n : Int)) = α.take n := by
  unfold cutD
  have e1 : HT.sIx α.length 0 none = 0 := rfl
  have e2 : HT.sIx α.length α.length (some (n : Int)) = n := by
    unfold HT.sIx
    simp only
    rw [if_neg (by omega)]
    omega
  rw [e1, e2, List.drop_zero, Nat.sub_zero]
theorem cut_drop {α : List D} {n : Nat} (h : n ≤ α.length) : cutD α (some (n : Int)) none = α.drop n := by
  unfold cutD
  have e1 : HT.sIx α.length α.length none = α.length := rfl
  have e2 : HT.sIx α.length 0 (some (n : Int)) = n := by
    unfold HT.sIx
    simp only
    rw [if_neg (by omega)]
    omega
  rw [e1, e2, List.take_of_length_le (by rw [List.length_drop]; exact Nat.le_refl _)]
/-- a comprehension over texts that keeps some -/
theorem lc_keep {i : Nat} {dt : DT} {vs : List Nat} {ρ : DEnv} {P : List D → Prop} (ws : List Str) (p : Str → Bool) (hi : i < ρ.length) (hm : i ∈ vs) (hl : ws.length ≤ 1000000) (ht : ∀ x, x ∈ ws → ∀ Q : Bool → Prop, Q (p x) → dt ((dwipe ρ vs).set i (some (Ent.val (.str x)))) Q) (h : P ((ws.filter p).map D.str)) : lcGo (dGName i) dt (dVar i) vs ρ [] (ws.map D.str) P := by
  have e : ((ws.map D.str).filter fun d => match d with | .str x => p x | _ => false) = (ws.filter p).map D.str := by
    rw [List.filter_map]
    rfl
  refine lcGo_filter (fun d => match d with | .str x => p x | _ => false) id (ws.map D.str) [] (fun x hx Q hQ => ?_) (fun x hx _ Q hQ => ?_) (by rw [List.length_map]; exact sl16 (by simpa using hl)) ?_
  · obtain ⟨t, htm, rfl⟩ := List.mem_map.mp hx
    exact ht t htm Q hQ
  · show getE _ Q
    rw [List.getElem?_set_self (by rw [dwipe_len]; exact hi)]
    exact hQ
  · rw [List.nil_append, e, List.map_id]
    exact h
/-- one round of the closure: everything through m is put in -/
theorem warsh {hs hs' : List Pr} {A B : List Str} {m : Str} {S : Str → Prop} (hA : ∀ a, (a, m) ∈ hs ↔ a ∈ A) (hB : ∀ b, (m, b) ∈ hs ↔ b ∈ B) (h1 : ∀ p, p ∈ hs → p ∈ hs') (h2 : ∀ p, p ∈ hs' → p ∈ hs ∨ p.1 ∈ A ∧ p.2 ∈ B) (h3 : ∀ a, a ∈ A → ∀ b, b ∈ B → (a, b) ∈ hs')
    (hcl : ∀ k, S k → ∀ a b, (a, k) ∈ hs → (k, b) ∈ hs → (a, b) ∈ hs) : ∀ k, S k ∨ k = m → ∀ a b, (a, k) ∈ hs' → (k, b) ∈ hs' → (a, b) ∈ hs' := by
  intro k hk a b ha hb
  rcases hk with hk | rfl
  · rcases h2 _ ha with ha | ⟨a1, a2⟩
    · rcases h2 _ hb with hb | ⟨b1, b2⟩
      · exact h1 _ (hcl k hk a b ha hb)
      · exact h3 a ((hA a).mp (hcl k hk a m ha ((hA k).mpr b1))) b b2
    · rcases h2 _ hb with hb | ⟨b1, b2⟩
      · exact h3 a a1 b ((hB b).mp (hcl k hk m b ((hB k).mpr a2) hb))
      · exact h3 a a1 b b2
  · have a1 : a ∈ A := by
      rcases h2 _ ha with ha | ⟨a1, _⟩
      · exact (hA a).mp ha
      · exact a1
    have b1 : b ∈ B := by
      rcases h2 _ hb with hb | ⟨_, b1⟩
      · exact (hB b).mp hb
      · exact b1
    exact h3 a a1 b b1
theorem perm_back {α β : Type} {f : α → β} (g : β → α) (hg : ∀ x, g (f x) = x) {ys : List β} {xs : List α} (h : ys.Perm (xs.map f)) : ∃ o : List α, ys = o.map f ∧ o.Perm xs := by
  have e : ∀ (l : List α), (l.map f).map g = l := fun l => by
    rw [List.map_map]
    exact (List.map_congr_left fun x _ => hg x).trans (List.map_id _)
  refine ⟨ys.map g, ?_, by have := h.map g; rwa [e] at this⟩
  rw [List.map_map]
  refine ((List.map_congr_left fun y hy => ?_).trans (List.map_id _)).symm
  obtain ⟨x, _, rfl⟩ := List.mem_map.mp (h.mem_iff.mp hy)
  show f (g (f x)) = f x
  rw [hg]
theorem perm_strs {ys : List D} {ts : List Str} (h : ys.Perm (ts.map D.str)) : ∃ o : List Str, ys = o.map D.str ∧ o.Perm ts :=
  perm_back (fun d => match d with | .str x => x | _ => Str.empty) (fun _ => rfl) h
theorem perm_pairs {ys : List D} {ps : List Pr} (h : ys.Perm (ps.map pD)) : ∃ o : List Pr, ys = o.map pD ∧ o.Perm ps :=
  perm_back (fun d => match d with | .tup [.str a, .str b] => (a, b) | _ => (Str.empty, Str.empty)) (fun _ => rfl) h
theorem pls_names {ts : List Str} (h : ∀ t ∈ ts, nameS t) : pls (ts.map D.str) = true := pls_strs fun t ht => ⟨nameS_ok (h t ht), by have := (h t ht).2.1; omega⟩
theorem cutS_lo {z : Str} {n : Nat} (h : n ≤ z.length) : (cutS z none (some (n : Int))).cps.toList = z.cps.toList.take n := by
  unfold cutS
  have e1 : HT.sIx z.length 0 none = 0 := rfl
  have e2 : HT.sIx z.length z.length (some (n : Int)) = n := by
    unfold HT.sIx
    simp only
    rw [if_neg (by omega)]
    omega
  rw [e1, e2]
  simp
theorem cutS_hi {z : Str} {n : Nat} (h : n ≤ z.length) : (cutS z (some (n : Int)) none).cps.toList = z.cps.toList.drop n := by
  unfold cutS
  have hl : z.cps.toList.length = z.length := len_list z
  have e1 : HT.sIx z.length z.length none = z.length := rfl
  have e2 : HT.sIx z.length 0 (some (n : Int)) = n := by
    unfold HT.sIx
    simp only
    rw [if_neg (by omega)]
    omega
  rw [e1, e2]
  simp only
  rw [List.take_of_length_le (by rw [List.length_drop, hl]; exact Nat.le_refl _)]
/-- a stem with a letter put in -/
def titleS (z : Str) (n c : Nat) : Str := cutS z none (some (n : Int)) ++ ⟨#[c]⟩ ++ cutS z (some (n : Int)) none
theorem title_list {z : Str} {n c : Nat} (h : n ≤ z.length) : (titleS z n c).cps.toList = z.cps.toList.take n ++ [c] ++ z.cps.toList.drop n := by
  show (((cutS z none (some (n : Int))).cps ++ #[c]) ++ (cutS z (some (n : Int)) none).cps).toList = _
  rw [Array.toList_append, Array.toList_append, cutS_lo h, cutS_hi h]
theorem title_name {z : Str} {n c : Nat} (h : n ≤ z.length) (hz : among z sLETTERS) (hl : z.length ≤ 7) (hc : c ∈ sLETTERS.cps.toList) : nameS (titleS z n c) := by
  have e := title_list (c := c) h
  have l : (titleS z n c).length = z.length + 1 := by
    rw [← len_list, e, List.length_append, List.length_append, List.length_take, List.length_drop, len_list, List.length_singleton]
    omega
  refine ⟨by omega, by omega, fun k hk => ?_⟩
  rw [e] at hk
  rcases List.mem_append.mp hk with hk | hk
  · rcases List.mem_append.mp hk with hk | hk
    · exact hz k (List.mem_of_mem_take hk)
    · rw [List.mem_singleton.mp hk]; exact hc
  · exact hz k (List.mem_of_mem_drop hk)
theorem title_inj {z : Str} {n c c' : Nat} (h : n ≤ z.length) (e : titleS z n c = titleS z n c') : c = c' := by
  have e1 := title_list (c := c) h
  have e2 := title_list (c := c') h
  rw [e, e2] at e1
  have e3 := List.append_cancel_right e1
  have e4 := List.append_cancel_left e3
  simpa using e4.symm
abbrev rowsS : Str := sLETTERS ++ sLETTERS
theorem rows_len : rowsS.cps.toList.length = 52 := by decide +kernel
theorem rows_in : ∀ k ∈ rowsS.cps.toList, k ∈ sLETTERS.cps.toList := by decide +kernel
theorem rows_ne : ∀ f : Fin 26, ∀ i : Fin 12, ∀ j : Fin 12, i < j → rowsS.cps.toList[f.val + i.val]? ≠ rowsS.cps.toList[f.val + j.val]? := by decide +kernel
/-- the names of a stem, a place and a first letter -/
def titlesL (z : Str) (n f m : Nat) : List Str := (List.range m).map fun k => titleS z n (rowsS.cps.toList.getD (f + k) 0)
theorem titles_ok {z : Str} {n f m : Nat} (h : n ≤ z.length) (hz : among z sLETTERS) (hl : z.length ≤ 7) (hf : f < 26) (hm : m ≤ 12) : (titlesL z n f m).length = m ∧ (∀ t ∈ titlesL z n f m, nameS t) ∧ (titlesL z n f m).Nodup := by
  have rl := rows_len
  refine ⟨by unfold titlesL; rw [List.length_map, List.length_range], fun t ht => ?_, ?_⟩
  · unfold titlesL at ht
    obtain ⟨k, hk, rfl⟩ := List.mem_map.mp ht
    have hk := List.mem_range.mp hk
    refine title_name h hz hl (rows_in _ ?_)
    rw [List.getD_eq_getElem?_getD, List.getElem?_eq_getElem (by omega)]
    exact List.getElem_mem _
  · refine List.pairwise_iff_getElem.mpr fun i j hi hj hij => ?_
    unfold titlesL at hi hj ⊢
    rw [List.length_map, List.length_range] at hi hj
    rw [List.getElem_map, List.getElem_map, List.getElem_range, List.getElem_range]
    intro e
    have e := title_inj h e
    have ne := rows_ne ⟨f, hf⟩ ⟨i, by omega⟩ ⟨j, by omega⟩ hij
    rw [List.getD_eq_getElem?_getD, List.getD_eq_getElem?_getD, List.getElem?_eq_getElem (by omega), List.getElem?_eq_getElem (by omega)] at e
    rw [List.getElem?_eq_getElem (by simp only; omega), List.getElem?_eq_getElem (by simp only; omega)] at ne
    exact ne (congrArg some e)
def unD : D → Pr := fun d => match d with | .tup [.str a, .str b] => (a, b) | _ => (Str.empty, Str.empty)
theorem unD_pD (p : Pr) : unD (pD p) = p := rfl
/-- a comprehension over pairs, one name for each -/
theorem lc_prs {i : Nat} {dt : DT} {de : DE} {vs : List Nat} {ρ : DEnv} {P : List D → Prop} (p : Pr → Bool) (f : Pr → Pr) (ps : List Pr) (hl : ps.length ≤ 1000000) (ht : ∀ x, x ∈ ps → ∀ Q : Bool → Prop, Q (p x) → dt ((dwipe ρ vs).set i (some (Ent.val (pD x)))) Q)
    (he : ∀ x, x ∈ ps → p x = true → ∀ Q : D → Bool → Prop, Q (pD (f x)) false → de ((dwipe ρ vs).set i (some (Ent.val (pD x)))) Q) (h : P (((ps.filter p).map f).map pD)) : lcGo (dGName i) dt de vs ρ [] (ps.map pD) P := by
  refine lcGo_filter (fun d => p (unD d)) (fun d => pD (f (unD d))) (ps.map pD) [] (fun x hx Q hQ => ?_) (fun x hx hpx Q hQ => ?_) (by rw [List.length_map]; exact sl16 (by show 0 + _ ≤ _; omega)) ?_
  · obtain ⟨t, htm, rfl⟩ := List.mem_map.mp hx
    exact ht t htm Q hQ
  · obtain ⟨t, htm, rfl⟩ := List.mem_map.mp hx
    exact he t htm hpx Q hQ
  · have e : ((ps.map pD).filter fun d => p (unD d)).map (fun d => pD (f (unD d))) = ((ps.filter p).map f).map pD := by
      rw [List.filter_map, List.map_map, List.map_map]
      rfl
    rw [List.nil_append, e]
    exact h
theorem atP0 {a b : D} : atI [a, b] (0 : Int) = some a := (rfl)
theorem atP1 {a b : D} : atI [a, b] (1 : Int) = some b := (rfl)

local macro_rules | `(tactic| walk_at "qd") => `(tactic| ((refine go_out ?_); (try simp only [nE__follows__held, nB__follows__held, nE__follows_names, nB__follows_names, nE__follows_needed, nB__follows_needed, nE__follows_pairs, nB__follows_pairs, nE__held__follows, nB__held__follows, nE__held_names, nB__held_names, nE__held_needed, nB__held_needed, nE__held_pairs, nB__held_pairs, nE_names__follows, nB_names__follows, nE_names__held, nB_names__held, nE_names_needed, nB_names_needed, nE_names_pairs, nB_names_pairs, nE_needed__follows, nB_needed__follows, nE_needed__held, nB_needed__held, nE_needed_names, nB_needed_names, nE_needed_pairs, nB_needed_pairs, nE_pairs__follows, nB_pairs__follows, nE_pairs__held, nB_pairs__held, nE_pairs_names, nB_pairs_names, nE_pairs_needed, nB_pairs_needed, go_lam, go_xf, go_gotP, go_allGotP, go_seqN, go_lxd, go_lxl, go_lxt, go_lxs, go_inTd, go_frzT, go_lcK, go_nlcK, go_dcK, go_kSort, go_kList, go_methXN, go_nlistD, go_putT, go_entDt, go_ownT, go_asgT, go_dcT, go_sortL, go_sortSet, go_nlc, go_retO, go_retE, go_callXN, go_appN, go_nsplit, go_forRet, go_dirty, go_cmethX, go_cmethNX, go_makeVX, go_addO, isLst_lst, go_neOwnL, go_par3VOO, go_methVX, go_augI, go_cval, go_lal, go_lat, go_las, dw1, dw2, List.isEmpty_nil, List.isEmpty_cons, strip_var, strip1_val, strip1_own, strip1_none, strip_nil, strip_val, strip_own, strip_none, go_raise, go_callX, go_callNX, go_smethX, go_methX, go_makeX, go_makeKX, go_inWT, go_inWL, go_inK2, atP0, atP1, List.lookup_cons, List.lookup_nil, beq_self_eq_true, go_go, go_fld, go_asIns, go_ownFld, go_objE, go_setFld, go_fmt, go_fmtS, go_fmtI, go_joined, go_jsN, go_jsC, go_inK, go_ixK, go_gtup, go_glst, setAll_nil, setAll_cons, go_make, go_makeK, go_meth, go_prop, go_smeth, go_smethN, isRaw_self, go_isiC, isiC_ins, isiC_str, isiC_non, go_eqOwn, go_neOwn, go_reprOwn, strOrIns_str, strOrIns_ins, putD, go_and, go_var, go_val, go_own, go_c, go_op, go_un, go_nil, go_cons, go_cb, go_tup, go_lst, go_test, go_asBl, go_asInt, go_asStr, go_some, go_dand, go_dor, go_dnot, go_ifE, go_andV, go_orV, go_notV, go_iT, go_iF, go_next, go_seq, go_if, go_ret, go_retN, go_brk, go_cont, go_drop, go_asg, go_gname, go_gpair, go_II, go_IC, go_addI, go_addS, go_addL, go_mulI, go_mulS, go_mulL, go_is, go_isnot, go_inS, go_inL, go_inT, go_ninS, go_eqbl, go_nebl, go_eqint, go_neint, go_isi, go_isi2, go_len, go_lenS, go_lenL, go_lenT, go_int1, go_intb, go_abs, go_max, go_min, go_lol, go_lot, go_tol, go_tot, go_all, go_any, go_ixL, go_ixT, go_ixS, go_noPart, go_part, go_sl, go_slL, go_slS, go_chain, go_lenSet, go_sl2, go_sl2L, go_tabG, go_tupBls, go_lenOwn, go_inOwn, go_eqNon, go_split, go_join, go_walk, go_rng1, go_rng2, go_zip, go_zipL, go_zipT, go_enum, go_enumL, go_lc, go_for, go_call, go_callN, go_asgO, go_nlst, go_nlo, go_append, go_entOwn, go_ownE, go_dxE, go_dxIf, go_asgX, go_popAt, go_pop, go_setIx, go_freeze, frz_own, frz_val, go_parVV, go_parOV, go_parVO, go_parOO, go_neg, dirt, D.flat, tyName, D.isNon, D.sign, D.toV, toVs, D.walked, D.items, strsOf, isD, isD2, inG, dstart, List.map, List.length, List.replicate, List.append, List.cons_append, List.nil_append, List.append_nil, List.getElem?_cons_zero, List.getElem?_cons_succ, List.set_cons_zero, List.set_cons_succ, Option.bind_some, Option.bind_none, if_true, if_false, Bool.false_eq_true, Bool.true_and, Bool.and_true, Bool.false_and, Bool.and_false, Bool.or_false, Bool.false_or, Bool.true_or, Bool.or_true, Bool.not_true, Bool.not_false, reduceIte, decide_true, decide_false, Nat.reduceAdd, Nat.reduceSub, Nat.zero_add, true_and, and_true,  ty_NoneType_str, ty_NoneType_int, ty_NoneType_bool, ty_NoneType_list, ty_NoneType_tuple, ty_bool_str, ty_bool_int, ty_bool_bool, ty_bool_list, ty_bool_tuple, ty_int_str, ty_int_int, ty_int_bool, ty_int_list, ty_int_tuple, ty_str_str, ty_str_int, ty_str_bool, ty_str_list, ty_str_tuple, ty_list_str, ty_list_int, ty_list_bool, ty_list_list, ty_list_tuple, ty_tuple_str, ty_tuple_int, ty_tuple_bool, ty_tuple_list, ty_tuple_tuple]); (try simp only [go_done])))
local macro_rules | `(tactic| walk_at "qs") => `(tactic| ((refine go_out ?_); (try simp only [nE__follows__held, nB__follows__held, nE__follows_names, nB__follows_names, nE__follows_needed, nB__follows_needed, nE__follows_pairs, nB__follows_pairs, nE__held__follows, nB__held__follows, nE__held_names, nB__held_names, nE__held_needed, nB__held_needed, nE__held_pairs, nB__held_pairs, nE_names__follows, nB_names__follows, nE_names__held, nB_names__held, nE_names_needed, nB_names_needed, nE_names_pairs, nB_names_pairs, nE_needed__follows, nB_needed__follows, nE_needed__held, nB_needed__held, nE_needed_names, nB_needed_names, nE_needed_pairs, nB_needed_pairs, nE_pairs__follows, nB_pairs__follows, nE_pairs__held, nB_pairs__held, nE_pairs_names, nB_pairs_names, nE_pairs_needed, nB_pairs_needed, go_lam, go_xf, go_gotP, go_allGotP, go_seqN, go_lxd, go_lxl, go_lxt, go_lxs, go_inTd, go_frzT, go_lcK, go_nlcK, go_dcK, go_kSort, go_kList, go_methXN, go_nlistD, go_putT, go_entDt, go_ownT, go_asgT, go_dcT, go_sortL, go_sortSet, go_nlc, go_retO, go_retE, go_callXN, go_appN, go_nsplit, go_forRet, go_dirty, go_cmethX, go_cmethNX, go_makeVX, go_addO, isLst_lst, go_neOwnL, go_par3VOO, go_methVX, go_augI, go_cval, go_lal, go_lat, go_las, dw1, dw2, List.isEmpty_nil, List.isEmpty_cons, strip_var, strip1_val, strip1_own, strip1_none, strip_nil, strip_val, strip_own, strip_none, go_raise, go_callX, go_callNX, go_smethX, go_methX, go_makeX, go_makeKX, go_inWT, go_inWL, go_inK2, atP0, atP1, List.lookup_cons, List.lookup_nil, beq_self_eq_true, go_go, go_fld, go_asIns, go_ownFld, go_objE, go_setFld, go_fmt, go_fmtS, go_fmtI, go_joined, go_jsN, go_jsC, go_inK, go_ixK, go_gtup, go_glst, setAll_nil, setAll_cons, go_make, go_makeK, go_meth, go_prop, go_smeth, go_smethN, isRaw_self, go_isiC, isiC_ins, isiC_str, isiC_non, go_eqOwn, go_neOwn, go_reprOwn, strOrIns_str, strOrIns_ins, putD, go_and, go_var, go_val, go_own, go_c, go_op, go_un, go_nil, go_cons, go_cb, go_tup, go_lst, go_test, go_asBl, go_asInt, go_asStr, go_some, go_dand, go_dor, go_dnot, go_ifE, go_andV, go_orV, go_notV, go_iT, go_iF, go_next, go_if, go_ret, go_retN, go_brk, go_cont, go_drop, go_asg, go_gname, go_gpair, go_II, go_IC, go_addI, go_addS, go_addL, go_mulI, go_mulS, go_mulL, go_is, go_isnot, go_inS, go_inL, go_inT, go_ninS, go_eqbl, go_nebl, go_eqint, go_neint, go_isi, go_isi2, go_len, go_lenS, go_lenL, go_lenT, go_int1, go_intb, go_abs, go_max, go_min, go_lol, go_lot, go_tol, go_tot, go_all, go_any, go_ixL, go_ixT, go_ixS, go_noPart, go_part, go_sl, go_slL, go_slS, go_chain, go_lenSet, go_sl2, go_sl2L, go_tabG, go_tupBls, go_lenOwn, go_inOwn, go_eqNon, go_split, go_join, go_walk, go_rng1, go_rng2, go_zip, go_zipL, go_zipT, go_enum, go_enumL, go_lc, go_for, go_call, go_callN, go_asgO, go_nlst, go_nlo, go_append, go_entOwn, go_ownE, go_dxE, go_dxIf, go_asgX, go_popAt, go_pop, go_setIx, go_freeze, frz_own, frz_val, go_parVV, go_parOV, go_parVO, go_parOO, go_neg, dirt, D.flat, tyName, D.isNon, D.sign, D.toV, toVs, D.walked, D.items, strsOf, isD, isD2, inG, dstart, List.map, List.length, List.replicate, List.append, List.cons_append, List.nil_append, List.append_nil, List.getElem?_cons_zero, List.getElem?_cons_succ, List.set_cons_zero, List.set_cons_succ, Option.bind_some, Option.bind_none, if_true, if_false, Bool.false_eq_true, Bool.true_and, Bool.and_true, Bool.false_and, Bool.and_false, Bool.or_false, Bool.false_or, Bool.true_or, Bool.or_true, Bool.not_true, Bool.not_false, reduceIte, decide_true, decide_false, Nat.reduceAdd, Nat.reduceSub, Nat.zero_add, true_and, and_true,  ty_NoneType_str, ty_NoneType_int, ty_NoneType_bool, ty_NoneType_list, ty_NoneType_tuple, ty_bool_str, ty_bool_int, ty_bool_bool, ty_bool_list, ty_bool_tuple, ty_int_str, ty_int_int, ty_int_bool, ty_int_list, ty_int_tuple, ty_str_str, ty_str_int, ty_str_bool, ty_str_list, ty_str_tuple, ty_list_str, ty_list_int, ty_list_bool, ty_list_list, ty_list_tuple, ty_tuple_str, ty_tuple_int, ty_tuple_bool, ty_tuple_list, ty_tuple_tuple]); (try simp only [go_done])))
local macro_rules | `(tactic| walk_at "q0") => `(tactic| ((refine go_out ?_); (simp only [go_gname, go_gpair, List.set_cons_zero, List.set_cons_succ]); (try simp only [go_done])))

abbrev s__law_bag : Stmt := top 26
abbrev s__law_pull : Stmt := top 27
abbrev s__law_of : Stmt := top 28
abbrev s__law_small : Stmt := top 31
abbrev s__law_titles : Stmt := top 32
abbrev s__law_mixed : Stmt := top 29
abbrev s__law_duos : Stmt := top 34
abbrev s__law_closed : Stmt := top 33
abbrev s__is_made_of : Stmt := top 14
abbrev s_is_letter_word : Stmt := top 15
abbrev s_is_name : Stmt := top 17
abbrev s__check_names : Stmt := top 20
abbrev s__check_pairs : Stmt := top 21
abbrev s__closed : Stmt := top 22
abbrev s_Ties___init__ : Stmt := inClass (top 24) 0
abbrev s_Ties__follows : Stmt := inClass (top 24) 3
abbrev s_Ties_needed : Stmt := inClass (top 24) 2
abbrev s__law_same : Stmt := top 30
abbrev s_Ties_pairs : Stmt := inClass (top 24) 1
abbrev s_law : Stmt := top 35
structure Txt (P : Program) (w : World) (K : PySem.W.Frag) (mg : Str → Option Value) where
  a__law_bag : Addr
  fd__law_bag : FuncData
  a__law_pull : Addr
  fd__law_pull : FuncData
  a__law_of : Addr
  fd__law_of : FuncData
  a__law_small : Addr
  fd__law_small : FuncData
  a__law_titles : Addr
  fd__law_titles : FuncData
  a__law_mixed : Addr
  fd__law_mixed : FuncData
  a__law_duos : Addr
  fd__law_duos : FuncData
  a__law_closed : Addr
  fd__law_closed : FuncData
  a__is_made_of : Addr
  fd__is_made_of : FuncData
  a_is_letter_word : Addr
  fd_is_letter_word : FuncData
  a_is_name : Addr
  fd_is_name : FuncData
  a__check_names : Addr
  fd__check_names : FuncData
  a__check_pairs : Addr
  fd__check_pairs : FuncData
  a__closed : Addr
  fd__closed : FuncData
  a_Ties___init__ : Addr
  fd_Ties___init__ : FuncData
  e_d102_36 : Addr
  a_Ties__follows : Addr
  fd_Ties__follows : FuncData
  a_Ties_needed : Addr
  fd_Ties_needed : FuncData
  a__law_same : Addr
  fd__law_same : FuncData
  a_Ties_pairs : Addr
  fd_Ties_pairs : FuncData
  a_law : Addr
  fd_law : FuncData
  t_LETTERS : Tok
  t_MOST_LETTERS : Tok
  t_MOST_NAMES : Tok
  C_Ties : Addr
  F__law_bag : Fun K "_law_bag" "_law_bag" s__law_bag a__law_bag fd__law_bag
  g__law_bag : mg "_law_bag" = some (.ref a__law_bag)
  F__law_pull : Fun K "_law_pull" "_law_pull" s__law_pull a__law_pull fd__law_pull
  g__law_pull : mg "_law_pull" = some (.ref a__law_pull)
  F__law_of : Fun K "_law_of" "_law_of" s__law_of a__law_of fd__law_of
  g__law_of : mg "_law_of" = some (.ref a__law_of)
  F__law_small : Fun K "_law_small" "_law_small" s__law_small a__law_small fd__law_small
  g__law_small : mg "_law_small" = some (.ref a__law_small)
  F__law_titles : Fun K "_law_titles" "_law_titles" s__law_titles a__law_titles fd__law_titles
  g__law_titles : mg "_law_titles" = some (.ref a__law_titles)
  F__law_mixed : Fun K "_law_mixed" "_law_mixed" s__law_mixed a__law_mixed fd__law_mixed
  g__law_mixed : mg "_law_mixed" = some (.ref a__law_mixed)
  F__law_duos : Fun K "_law_duos" "_law_duos" s__law_duos a__law_duos fd__law_duos
  g__law_duos : mg "_law_duos" = some (.ref a__law_duos)
  F__law_closed : Fun K "_law_closed" "_law_closed" s__law_closed a__law_closed fd__law_closed
  g__law_closed : mg "_law_closed" = some (.ref a__law_closed)
  F__is_made_of : Fun K "_is_made_of" "_is_made_of" s__is_made_of a__is_made_of fd__is_made_of
  g__is_made_of : mg "_is_made_of" = some (.ref a__is_made_of)
  F_is_letter_word : Fun K "is_letter_word" "is_letter_word" s_is_letter_word a_is_letter_word fd_is_letter_word
  g_is_letter_word : mg "is_letter_word" = some (.ref a_is_letter_word)
  F_is_name : Fun K "is_name" "is_name" s_is_name a_is_name fd_is_name
  g_is_name : mg "is_name" = some (.ref a_is_name)
  F__check_names : Fun K "_check_names" "_check_names" s__check_names a__check_names fd__check_names
  g__check_names : mg "_check_names" = some (.ref a__check_names)
  F__check_pairs : Fun K "_check_pairs" "_check_pairs" s__check_pairs a__check_pairs fd__check_pairs
  g__check_pairs : mg "_check_pairs" = some (.ref a__check_pairs)
  F__closed : Fun K "_closed" "_closed" s__closed a__closed fd__closed
  g__closed : mg "_closed" = some (.ref a__closed)
  F_Ties___init__ : FunD K "__init__" "Ties.__init__" (defArgs s_Ties___init__) (defBody s_Ties___init__) (defScope s_Ties___init__) [.ref e_d102_36] [] a_Ties___init__ fd_Ties___init__
  r_d102_36 : ∀ H, R K H (.tup []) (.ref e_d102_36)
  F_Ties__follows : Fun K "_follows" "Ties._follows" s_Ties__follows a_Ties__follows fd_Ties__follows
  F_Ties_needed : Fun K "needed" "Ties.needed" s_Ties_needed a_Ties_needed fd_Ties_needed
  F__law_same : Fun K "_law_same" "_law_same" s__law_same a__law_same fd__law_same
  g__law_same : mg "_law_same" = some (.ref a__law_same)
  F_Ties_pairs : Fun K "pairs" "Ties.pairs" s_Ties_pairs a_Ties_pairs fd_Ties_pairs
  F_law : Fun K "law" "law" s_law a_law fd_law
  g_law : mg "law" = some (.ref a_law)
  b_abs : mg "abs" = none
  b_all : mg "all" = none
  b_any : mg "any" = none
  b_bool : mg "bool" = none
  b_enumerate : mg "enumerate" = none
  b_int : mg "int" = none
  b_isinstance : mg "isinstance" = none
  b_len : mg "len" = none
  b_list : mg "list" = none
  b_range : mg "range" = none
  b_set : mg "set" = none
  b_sorted : mg "sorted" = none
  b_str : mg "str" = none
  b_tuple : mg "tuple" = none
  b_zip : mg "zip" = none
  g_LETTERS : mg "LETTERS" = some (.str "abcdefghijklmnopqrstuvwxyz" t_LETTERS)
  g_MOST_LETTERS : mg "MOST_LETTERS" = some (.int 8 t_MOST_LETTERS)
  g_MOST_NAMES : mg "MOST_NAMES" = some (.int 12 t_MOST_NAMES)
  g_Ties : mg "Ties" = some (.ref C_Ties)
  cl_Ties : Cls K C_Ties
  mk_Ties : Mk K C_Ties a_Ties___init__
  me_Ties__follows : Meth K C_Ties "_follows" a_Ties__follows
  me_Ties_needed : Meth K C_Ties "needed" a_Ties_needed
  me_Ties_pairs : Meth K C_Ties "pairs" a_Ties_pairs
  na_Ties__held : NoAttr K C_Ties "_held"
  na_Ties_names : NoAttr K C_Ties "names"
section
variable {P : Program} {w : World} {K : PySem.W.Frag} {mg : Str → Option Value} {base : Heap}
theorem bn__law_bag (T : Txt P w K mg) : Binds K T.fd__law_bag ["_law_script"] [] := T.F__law_bag.binds (ps := ["_law_script"]) fun _ _ _ _ _ _ us hl => match us, hl with | [_], _ => rfl
theorem bn__law_pull (T : Txt P w K mg) : Binds K T.fd__law_pull ["_law_bag_here", "_law_many"] [] := T.F__law_pull.binds (ps := ["_law_bag_here", "_law_many"]) fun _ _ _ _ _ _ us hl => match us, hl with | [_, _], _ => rfl
theorem bn__law_of (T : Txt P w K mg) : Binds K T.fd__law_of ["_law_bag_here", "_law_some"] [] := T.F__law_of.binds (ps := ["_law_bag_here", "_law_some"]) fun _ _ _ _ _ _ us hl => match us, hl with | [_, _], _ => rfl
theorem bn__law_small (T : Txt P w K mg) : Binds K T.fd__law_small [] [] := T.F__law_small.binds (ps := []) fun _ _ _ _ _ _ us hl => match us, hl with | [], _ => rfl
theorem bn__law_titles (T : Txt P w K mg) : Binds K T.fd__law_titles ["_law_bag_here", "_law_many"] [] := T.F__law_titles.binds (ps := ["_law_bag_here", "_law_many"]) fun _ _ _ _ _ _ us hl => match us, hl with | [_, _], _ => rfl
theorem bn__law_mixed (T : Txt P w K mg) : Binds K T.fd__law_mixed ["_law_bag_here", "_law_some"] [] := T.F__law_mixed.binds (ps := ["_law_bag_here", "_law_some"]) fun _ _ _ _ _ _ us hl => match us, hl with | [_, _], _ => rfl
theorem bn__law_duos (T : Txt P w K mg) : Binds K T.fd__law_duos ["_law_bag_here", "_law_titles_here", "_law_share"] [] := T.F__law_duos.binds (ps := ["_law_bag_here", "_law_titles_here", "_law_share"]) fun _ _ _ _ _ _ us hl => match us, hl with | [_, _, _], _ => rfl
theorem bn__law_closed (T : Txt P w K mg) : Binds K T.fd__law_closed ["_law_duos_here"] [] := T.F__law_closed.binds (ps := ["_law_duos_here"]) fun _ _ _ _ _ _ us hl => match us, hl with | [_], _ => rfl
theorem bn__is_made_of (T : Txt P w K mg) : Binds K T.fd__is_made_of ["value", "characters", "most"] [] := T.F__is_made_of.binds (ps := ["value", "characters", "most"]) fun _ _ _ _ _ _ us hl => match us, hl with | [_, _, _], _ => rfl
theorem bn_is_letter_word (T : Txt P w K mg) : Binds K T.fd_is_letter_word ["value"] [] := T.F_is_letter_word.binds (ps := ["value"]) fun _ _ _ _ _ _ us hl => match us, hl with | [_], _ => rfl
theorem bn_is_name (T : Txt P w K mg) : Binds K T.fd_is_name ["value"] [] := T.F_is_name.binds (ps := ["value"]) fun _ _ _ _ _ _ us hl => match us, hl with | [_], _ => rfl
theorem bn__check_names (T : Txt P w K mg) : Binds K T.fd__check_names ["names"] [] := T.F__check_names.binds (ps := ["names"]) fun _ _ _ _ _ _ us hl => match us, hl with | [_], _ => rfl
theorem bn__check_pairs (T : Txt P w K mg) : Binds K T.fd__check_pairs ["names", "pairs"] [] := T.F__check_pairs.binds (ps := ["names", "pairs"]) fun _ _ _ _ _ _ us hl => match us, hl with | [_, _], _ => rfl
theorem bn__closed (T : Txt P w K mg) : Binds K T.fd__closed ["names", "pairs"] [] := T.F__closed.binds (ps := ["names", "pairs"]) fun _ _ _ _ _ _ us hl => match us, hl with | [_, _], _ => rfl
theorem bn_Ties__follows (T : Txt P w K mg) : Binds K T.fd_Ties__follows ["self", "one", "other"] [] := T.F_Ties__follows.binds (ps := ["self", "one", "other"]) fun _ _ _ _ _ _ us hl => match us, hl with | [_, _, _], _ => rfl
theorem bn_Ties_needed (T : Txt P w K mg) : Binds K T.fd_Ties_needed ["self"] [] := T.F_Ties_needed.binds (ps := ["self"]) fun _ _ _ _ _ _ us hl => match us, hl with | [_], _ => rfl
theorem bn__law_same (T : Txt P w K mg) : Binds K T.fd__law_same ["_law_found", "_law_due"] [] := T.F__law_same.binds (ps := ["_law_found", "_law_due"]) fun _ _ _ _ _ _ us hl => match us, hl with | [_, _], _ => rfl
theorem bn_Ties_pairs (T : Txt P w K mg) : Binds K T.fd_Ties_pairs ["self"] [] := T.F_Ties_pairs.binds (ps := ["self"]) fun _ _ _ _ _ _ us hl => match us, hl with | [_], _ => rfl
theorem bd_Ties___init___3 (T : Txt P w K mg) : ∃ ds, Vals (([.ref T.e_d102_36] : List V).drop 1) ds ∧ Binds K T.fd_Ties___init__ ["self", "names", "pairs"] ds := T.F_Ties___init__.binds1 3 1 (by simp) rfl (fun T kV doc pm an cdv ct us its h1 h2 => match us, its, h1, h2 with | [_, _, _], [_], _, _ => ⟨_, rfl, rfl⟩)
theorem sc__law_bag : FnScope ["_law_script", "_law_mixed_here", "_law_cell"] ["_law_script"] (defScope s__law_bag) := ⟨rfl, rfl, rfl, by decide +kernel, rfl, by decide +kernel, by decide +kernel⟩
theorem cut63 {ns : List Int} (h : ns.length ≤ 63) : cutV (ns.map V.int) none (some 63) = ns.map V.int := by
  unfold cutV
  have e1 : HT.sIx (ns.map V.int).length 0 none = 0 := rfl
  have e2 : HT.sIx (ns.map V.int).length (ns.map V.int).length (some 63) = (ns.map V.int).length := by
    unfold HT.sIx
    simp only [List.length_map]
    rw [if_neg (by decide)]
    have : (63 : Int).toNat = 63 := rfl
    omega
  rw [e1, e2, List.drop_zero, Nat.sub_zero, List.take_length]
theorem ok__law_bag (T : Txt P w K mg) : FnOk P w K mg base CX0 2 T.a__law_bag T.fd__law_bag ["_law_script"] (spBag2 K) := by
  refine T.F__law_bag.ok sc__law_bag (fun vs H Q E h => ?_) (fun cdv A outer s H vs Q E hr h => ?_)
  · obtain ⟨a, ns, rfl, _⟩ := h
    rfl
  obtain ⟨a, ns, rfl, hS, hl, q⟩ := h
  refine ⟨_, (pss_cons (ps_set (i := 1) sc__law_bag.nd rfl (by first | exact Or.inl rfl | exact Or.inr rfl) pe_int) (pss_cons (ps_for PassesOwn.never (by rfl) (pi_any (pe_slice q_sl (pv 0) po_none (po_some pe_int))) (pg_name (i := 2) sc__law_bag.nd rfl (by first | exact Or.inl rfl | exact Or.inr rfl)) (pss_one (ps_set (i := 1) sc__law_bag.nd rfl (by first | exact Or.inl rfl | exact Or.inr rfl) (pe_op q_mod (pe_callTy q_int1 (by rfl) T.b_int (by decide +kernel) (pa_cons (pe_op q_add (pe_op q_add (pe_op q_mul (pv 1) pe_int) (pe_op q_mul (pe_op q_mod (pe_callTy q_int1 (by rfl) T.b_int (by decide +kernel) (pa_cons (pv 2) pa_nil)) pe_int) pe_int)) pe_int) pa_nil)) pe_int)))) (pss_one (ps_ret (pe_lst (pa_cons (pe_callTy q_listOf (by rfl) T.b_list (by decide +kernel) (pa_cons (pe_slice q_sl (pv 0) po_none (po_some pe_int)) pa_nil)) (pa_cons pe_int (pa_cons pe_int (pa_cons (pv 1) (pa_cons pe_int pa_nil)))))))))), ?_⟩
  refine ⟨_, rfl, 63, rfl, .inl ⟨a, _, rfl, hS, fun p hp => .inl ⟨p, _, rfl, SqL.of upd_same, ?_⟩⟩⟩
  rw [cut63 hl]
  have g0 : Grow H (upd H p (.lst (ns.map V.int))) := Grow.new hp
  refine for_list (K := K) (a := p) (xs := ns.map V.int) (fun i σ H' => ∃ (m : Int) (v : Option V), σ = [some (.ref a), some (.int m), v] ∧ 0 ≤ m ∧ m < 4294967296 ∧ H' = upd H p (.lst (ns.map V.int)))
    ⟨5740, none, rfl, by decide, by decide, rfl⟩ (fun i σ H' _ ⟨m, v, _, _, _, e⟩ => by rw [e]; exact SqL.of upd_same) ?_ ?_
  · rintro i x σ H' hx ⟨m, v, rfl, m0, m1, rfl⟩
    obtain ⟨z, rfl⟩ : ∃ z, x = V.int z := by
      rw [List.getElem?_map] at hx
      obtain ⟨z, _, e⟩ := Option.map_eq_some_iff.mp hx
      exact ⟨z, e.symm⟩
    refine ts_setName (ei_mod (ei_int (ei_add (ei_add (ei_mul (ei_var rfl) ei_c (cmulr ⟨by decide, by decide⟩)) (ei_mul (ei_mod (ei_int (ei_var rfl)) ei_c (by decide)) ei_c (cmulr ⟨by decide, by decide⟩))) ei_c)) ei_c (by decide)) ?_
    exact ⟨_, _, rfl, Int.emod_nonneg _ (by decide), Int.lt_trans (Int.emod_lt_of_pos _ (by decide)) (by decide), rfl⟩
  · rintro σ H' ⟨m, v, rfl, m0, m1, rfl⟩
    refine ⟨_, rfl, 63, rfl, .inl ⟨a, _, rfl, grow_l g0 hS, fun p2 hp2 => ⟨p2, _, rfl, .inl (SqL.of upd_same), fun l hl2 => ⟨_, rfl, by show 5 ≤ sizeLine; decide, fun b hb => ?_⟩⟩⟩⟩
    rw [cut63 hl] at hl2 hb ⊢
    have hne : l ≠ b := fun e => by
      rw [← e, upd_same] at hb
      cases hb
    refine q (b, l) _ (fun e => hne e.symm) ⟨ns, 0, 0, m, 0, upd_same, but_of (fun e => hne (List.mem_singleton.mp e)) ?_, hl, by decide, by omega, by decide, m0, m1, by decide⟩ (((g0.trans (Grow.new hp2)).trans (Grow.new hl2)).trans (Grow.new hb))
    rw [upd_ne hne, upd_same]
theorem sc__law_pull : FnScope ["_law_bag_here", "_law_many", "_law_cell", "_law_digit", "_law_twice"] ["_law_bag_here", "_law_many"] (defScope s__law_pull) := ⟨rfl, rfl, rfl, by decide +kernel, rfl, by decide +kernel, by decide +kernel⟩
theorem ok__law_pull (T : Txt P w K mg) : FnOk P w K mg base CX0 2 T.a__law_pull T.fd__law_pull ["_law_bag_here", "_law_many"] (spD K 2 dtPull) := by
  refine T.F__law_pull.ok sc__law_pull (fun vs H Q E h => ?_) (fun cdv A outer s H vs Q E hr h => ?_)
  · obtain ⟨c, ds, _, _, hl, _, ra, _⟩ := h
    rw [ra.length, hl]
    rfl
  obtain ⟨c, ds, Pd, Er, _, iv, ra, ⟨b, n, hb, rfl, n0, n1, hd⟩, q, _⟩ := h
  obtain ⟨v1, r1, rfl, e1, v2, r2, rfl, e2, e3⟩ := ra
  have e1' : v1 = .ref b.1 := e1
  have e2' : v2 = .int n := e2
  have e3' : r2 = [] := e3
  subst e1' e2' e3'
  obtain ⟨ns, i1, i2, i3, i4, h1, h2, l63, p0, p1, p2, p3, p4, p5⟩ := c.bI b hb H iv
  obtain ⟨hM, h2'⟩ := but_some h2
  have hne : b.2 ≠ b.1 := fun e => by
    rw [e, h1] at h2'
    have h4 := congrArg List.length (HO.lst.inj (Option.some.inj h2'))
    cases ns with
    | nil => cases h4
    | cons x r =>
      have h5 := HO.lst.inj (Option.some.inj h2')
      cases h5
  have S0 : BagSt H b ns H i1 i2 i3 i4 := ⟨h1, h2', hne, fun _ _ h _ => h, l63, p0, p1, p2, p3, p4, p5⟩
  refine ⟨_, (pss_cons (ps_asg (pe_op q_add (pe_ix q_ix (pv 0) pe_int (fun _ _ => rfl)) pe_int) (pg_sub (pv 0) pe_int set_list)) (pss_cons (ps_if (PW.pt (pw_and (pt_cmpR (q_eq (hu64 hr)) (pe_ix q_ix (pv 0) pe_int (fun _ _ => rfl)) pe_int (nomark _)) (pw_and1 (pt_cmpR q_lt (pe_ix q_ix (pv 0) pe_int (fun _ _ => rfl)) (pe_callB q_len (by rfl) T.b_len (by decide +kernel) (pa_cons (pe_ix q_ix (pv 0) pe_int (fun _ _ => rfl)) pa_nil)) (nomark _))))) (pss_cons (ps_set (i := 2) sc__law_pull.nd rfl (by first | exact Or.inl rfl | exact Or.inr rfl) (pe_ix q_ix (pe_ix q_ix (pv 0) pe_int (fun _ _ => rfl)) (pe_ix q_ix (pv 0) pe_int (fun _ _ => rfl)) (fun _ _ => rfl))) (pss_cons (ps_asg (pe_op q_add (pe_ix q_ix (pv 0) pe_int (fun _ _ => rfl)) pe_int) (pg_sub (pv 0) pe_int set_list)) (pss_one (ps_if (pt_cmpR q_ge (pe_callB q_abs (by rfl) T.b_abs (by decide +kernel) (pa_cons (pv 2) pa_nil)) (pe_op q_pow pe_int pe_int) (nomark _)) (pss_one (ps_asg (pe_callB q_abs (by rfl) T.b_abs (by decide +kernel) (pa_cons (pv 2) pa_nil)) (pg_sub (pv 0) pe_int set_list))) (pss_one (ps_asg (pe_op q_mod (pe_callTy q_int1 (by rfl) T.b_int (by decide +kernel) (pa_cons (pe_op q_add (pe_op q_add (pe_op q_mul (pe_ix q_ix (pv 0) pe_int (fun _ _ => rfl)) pe_int) (pe_op q_mul (pe_op q_mod (pe_callTy q_int1 (by rfl) T.b_int (by decide +kernel) (pa_cons (pv 2) pa_nil)) pe_int) pe_int)) pe_int) pa_nil)) pe_int) (pg_sub (pv 0) pe_int set_list))))))) pss_nil) (pss_cons (ps_if (pt_cmpR q_gt (pe_ix q_ix (pv 0) pe_int (fun _ _ => rfl)) pe_int (nomark _)) (pss_cons (ps_set (i := 3) sc__law_pull.nd rfl (by first | exact Or.inl rfl | exact Or.inr rfl) (pe_op q_mod (pe_callTy q_int1 (by rfl) T.b_int (by decide +kernel) (pa_cons (pe_ix q_ix (pv 0) pe_int (fun _ _ => rfl)) pa_nil)) (pv 1))) (pss_cons (ps_asg (pe_op q_fdiv (pe_ix q_ix (pv 0) pe_int (fun _ _ => rfl)) (pv 1)) (pg_sub (pv 0) pe_int set_list)) (pss_one (ps_ret (pv 3))))) pss_nil) (pss_cons (ps_set (i := 4) sc__law_pull.nd rfl (by first | exact Or.inl rfl | exact Or.inr rfl) (pe_op q_mod (pe_callTy q_int1 (by rfl) T.b_int (by decide +kernel) (pa_cons (pe_op q_add (pe_op q_mul (pe_ix q_ix (pv 0) pe_int (fun _ _ => rfl)) (pe_ix q_ix (pv 0) pe_int (fun _ _ => rfl))) (pe_op q_mul (pe_ix q_ix (pv 0) pe_int (fun _ _ => rfl)) pe_int)) pa_nil)) pe_int)) (pss_cons (ps_asg (pe_op q_mod (pe_callTy q_int1 (by rfl) T.b_int (by decide +kernel) (pa_cons (pe_op q_add (pe_op q_add (pe_op q_mul (pv 4) pe_int) (pe_op q_mul (pe_ix q_ix (pv 0) pe_int (fun _ _ => rfl)) pe_int)) pe_int) pa_nil)) pe_int) (pg_sub (pv 0) pe_int set_list)) (pss_one (ps_ret (pe_op q_mod (pe_callTy q_int1 (by rfl) T.b_int (by decide +kernel) (pa_cons (pe_op q_fdiv (pe_ix q_ix (pv 0) pe_int (fun _ _ => rfl)) pe_int) pa_nil)) (pv 1))))))))), ?_⟩
  -- bag[4] = bag[4] + 1
  refine ts_bag S0 (ei_add (ei_ix rfl S0.at_ rfl) ei_c) rfl rfl rfl p0 p1 p2 p3 p4 (by omega) fun H1 S1 => ?_
  -- the first test: it leaves some bag
  dsimp only
  refine ts_cut (fun σ' H' => ∃ (v : Option V) (j1 j2 j3 j4 : Int), σ' = [some (.ref b.1), some (.int n), v, none, none] ∧ BagSt H b ns H' j1 j2 j3 j4) (fun D' hrt k => ?_) ?_
  · refine ts_if (eb_and (r := decide (i2 = 0) && decide (i1 < (ns.length : Int))) (eb_eq (ei_ix rfl S1.at_ rfl) ei_c) (fun e => ?_) (fun e => by rw [e]; rfl)) (fun e => ?_) (fun _ => ?_)
    · rw [e, Bool.true_and]
      have := eb_lt (ta := tOp (gIx K) (tVar 0) (tC (.int 1))) (ei_ix (K := K) (σ := L2.start ["_law_bag_here", "_law_many", "_law_cell", "_law_digit", "_law_twice"] [.ref b.1, .int n]) (n := 0) (k := 1) (i := i1) rfl S1.at_ rfl) (ei_len (K := K) (σ := L2.start ["_law_bag_here", "_law_many", "_law_cell", "_law_digit", "_law_twice"] [.ref b.1, .int n]) (n := 0) (k := 0) rfl S1.at_ rfl S1.ls)
      rw [List.length_map] at this
      exact this
    · rw [Bool.and_eq_true] at e
      have e1 := of_decide_eq_true e.2
      obtain ⟨z, hz1, hz⟩ : ∃ z, z ∈ ns ∧ atI (ns.map V.int) i1 = some (.int z) := by
        have hk : i1.toNat < ns.length := by omega
        refine ⟨ns[i1.toNat], List.getElem_mem _, ?_⟩
        unfold atI ixN
        rw [if_pos p0, List.length_map, if_pos e1]
        show (ns.map V.int)[i1.toNat]? = _
        rw [List.getElem?_map, List.getElem?_eq_getElem hk]
        rfl
      -- cell = bag[0][bag[1]]
      refine ts_setName (ei_ix2 rfl S1.at_ rfl S1.ls (ei_ix rfl S1.at_ rfl) hz) ?_
      -- bag[1] = bag[1] + 1
      refine ts_bag S1 (ei_add (ei_ix rfl S1.at_ rfl) ei_c) rfl rfl rfl (by omega) (by omega) p2 p3 p4 (by omega) fun H2 S2 => ?_
      refine ts_if (eb_ge (ei_abs (ei_var rfl)) (ei_pow ei_c ei_c ⟨by decide, by decide, by decide⟩)) (fun _ => ?_) (fun _ => ?_)
      · have hz0 : 0 ≤ (if z < 0 then -z else z) := by split <;> omega
        refine ts_bag S2 (ei_abs (ei_var rfl)) rfl rfl rfl (by omega) (by omega) hz0 p3 p4 (by omega) fun H3 S3 => ?_
        exact k _ _ ⟨_, _, _, _, _, rfl, S3⟩
      · refine ts_bag S2 (ei_mod (ei_int (ei_add (ei_add (ei_mul (ei_ix rfl S2.at_ rfl) ei_c (cmulr ⟨by decide, by decide⟩)) (ei_mul (ei_mod (ei_int (ei_var rfl)) ei_c (by decide)) ei_c (cmulr ⟨by decide, by decide⟩))) ei_c)) ei_c (by decide)) rfl rfl rfl (by omega) (by omega) p2 (Int.emod_nonneg _ (by decide)) (Int.lt_trans (Int.emod_lt_of_pos _ (by decide)) (by decide)) (by omega) fun H3 S3 => ?_
        exact k _ _ ⟨_, _, _, _, _, rfl, S3⟩
    · exact k _ _ ⟨_, _, _, _, _, rfl, S1⟩
  rintro σ' H' ⟨v, j1, j2, j3, j4, rfl, S3⟩
  have fin : ∀ (H'' : Hp) (k1 k2 k3 k4 x : Int), BagSt H b ns H'' k1 k2 k3 k4 → 0 ≤ x → x < n → Q (.int x) H'' := fun H'' k1 k2 k3 k4 x S x0 x1 => by
    obtain ⟨z1, z2⟩ := S.fin hb iv hM
    exact q _ _ _ (hd x x0 x1) z1 z2 rfl
  -- what is left of a great number
  refine ts_cut (fun σ'' H'' => σ'' = [some (.ref b.1), some (.int n), v, none, none] ∧ H'' = H') (fun D' hrt k => ?_) ?_
  · refine ts_if (eb_gt (ei_ix rfl S3.at_ rfl) ei_c) (fun _ => ?_) (fun _ => k _ _ ⟨rfl, rfl⟩)
    refine ts_setName (ei_mod (ei_int (ei_ix rfl S3.at_ rfl)) (ei_var rfl) n0) ?_
    refine ts_bag S3 (ei_fdiv (ei_ix rfl S3.at_ rfl) (ei_var rfl) ⟨n0, n1⟩) rfl rfl rfl S3.p0 S3.p1 (Int.ediv_nonneg S3.p2 (by omega)) S3.p3 S3.p4 S3.p5 fun H4 S4 => ?_
    refine ts_ret (ei_var rfl) ?_
    rw [hrt]
    exact fin _ _ _ _ _ _ S4 (Int.emod_nonneg _ (by omega)) (Int.emod_lt_of_pos _ n0)
  rintro σ'' H'' ⟨rfl, rfl⟩
  refine ts_setName (ei_mod (ei_int (ei_add (ei_mul (ei_ix rfl S3.at_ rfl) (ei_ix rfl S3.at_ rfl) (cmulr ⟨by have := S3.p3; omega, by have := S3.p4; omega⟩)) (ei_mul (ei_ix rfl S3.at_ rfl) ei_c (cmulr ⟨by decide, by decide⟩)))) ei_c (by decide)) ?_
  refine ts_bag S3 (ei_mod (ei_int (ei_add (ei_add (ei_mul (ei_var rfl) ei_c (cmulr ⟨by decide, by decide⟩)) (ei_mul (ei_ix rfl S3.at_ rfl) ei_c (cmulr ⟨by decide, by decide⟩))) ei_c)) ei_c (by decide)) rfl rfl rfl S3.p0 S3.p1 S3.p2 (Int.emod_nonneg _ (by decide)) (Int.lt_trans (Int.emod_lt_of_pos _ (by decide)) (by decide)) S3.p5 fun H4 S4 => ?_
  refine ts_ret (ei_mod (ei_int (ei_fdiv (ei_ix rfl S4.at_ rfl) ei_c ⟨by decide, by decide⟩)) (ei_var rfl) n0) ?_
  exact fin _ _ _ _ _ _ S4 (Int.emod_nonneg _ (by omega)) (Int.emod_lt_of_pos _ n0)
theorem sc__law_of : FnScope ["_law_bag_here", "_law_some"] ["_law_bag_here", "_law_some"] (defScope s__law_of) := ⟨rfl, rfl, rfl, by decide +kernel, rfl, by decide +kernel, by decide +kernel⟩
/-- some item of what is handed in -/
def dt__law_of : DF := fun bag ds P _ => ∃ b s xs, bag = some b ∧ ds = [.raw (.ref b.1), s] ∧ s.walked = some xs ∧ xs ≠ [] ∧ xs.length < 1000000 ∧ ∀ d, d ∈ xs → P d
theorem ok__law_of (T : Txt P w K mg) : FnOk P w K mg base CX0 4 T.a__law_of T.fd__law_of ["_law_bag_here", "_law_some"] (spD K 2 (dt__law_of)) := by
  refine okD T.F__law_of sc__law_of rfl fun cdv A outer s H E c hr => ⟨_, _, (pss_one (ps_ret (pe_ix q_ix (pv 1) (pe_call ((ok__law_pull T).mono (by decide)) hr (by rfl) T.g__law_pull T.F__law_pull.kp (bn__law_pull T) .nil pass0 (pa_cons (pv 0) (pa_cons (pe_callB q_len (by rfl) T.b_len (by decide +kernel) (pa_cons (pv 1) pa_nil)) pa_nil))) (fun _ _ => rfl)))), (sim_ret (sim_op sr_ix sim_var (sim_call (sim_cons sim_var (sim_cons (sim_cb sc_len (sim_cons sim_var sim_nil)) sim_nil))))), fun ds Pd Er hl hd => ?_⟩
  obtain ⟨b, s, xs, hb, rfl, hw, hne, hsz, hd⟩ := hd
  have hp := pos_len hne
  cases s with
  | str z =>
    cases hw
    have hl : (z.cps.toList.map fun k => D.str ⟨#[k]⟩).length = z.length := by rw [List.length_map, len_list]
    rw [hl] at hsz hp
    have z16 : z.length ≤ sizeLine := Nat.le_trans (Nat.le_of_lt hsz) (by decide)
    walk_at "qd"
    refine ⟨z16, b, _, hb, rfl, by omega, by omega, fun k h0 h1 => ?_⟩
    have h1' : k < (z.cps.toList.length : Int) := by rw [len_list]; exact h1
    obtain ⟨x, hx, e⟩ := atI_mem h0 h1'
    refine ⟨z16, ?_⟩
    show optP (atI z.cps.toList k) _
    rw [e]
    exact hd _ (List.mem_map.mpr ⟨x, hx, rfl⟩)
  | lst ys =>
    cases hw
    walk_at "qd"
    refine ⟨b, _, hb, rfl, by omega, by omega, fun k h0 h1 => ?_⟩
    obtain ⟨x, hx, e⟩ := atI_mem h0 h1
    show optP (atI _ k) _
    rw [e]
    exact hd _ hx
  | tup ys =>
    cases hw
    walk_at "qd"
    refine ⟨b, _, hb, rfl, by omega, by omega, fun k h0 h1 => ?_⟩
    obtain ⟨x, hx, e⟩ := atI_mem h0 h1
    show optP (atI _ k) _
    rw [e]
    exact hd _ hx
  | non => cases hw
  | bl _ => cases hw
  | int _ => cases hw
  | ins _ _ => cases hw
  | raw _ => cases hw
  | lam _ => cases hw
  | dk _ => cases hw
  | dt _ => cases hw
theorem sc__law_small : FnScope [] [] (defScope s__law_small) := ⟨rfl, rfl, rfl, by decide +kernel, rfl, by decide +kernel, by decide +kernel⟩
def dt__law_small : DF := fun _ ds P _ => P (.str sLETTERS)
theorem ok__law_small (T : Txt P w K mg) : FnOk P w K mg base CX0 2 T.a__law_small T.fd__law_small [] (spD K 0 (dt__law_small)) := by
  refine okD T.F__law_small sc__law_small rfl fun cdv A outer s H E c hr => ⟨_, _, (pss_one (ps_ret pe_str)), (sim_ret sim_str), fun ds Pd Er hl hd => ?_⟩
  exact hd
theorem sc__law_titles : FnScope ["_law_bag_here", "_law_many", "_law_stem", "_law_k", "_law_at", "_law_first", "_law_rows"] ["_law_bag_here", "_law_many"] (defScope s__law_titles) := ⟨rfl, rfl, rfl, by decide +kernel, rfl, by decide +kernel, by decide +kernel⟩
def dt__law_titles : DF := fun bag ds P _ => ∃ b n, bag = some b ∧ ds = [.raw (.ref b.1), .int n] ∧ 1 ≤ n ∧ n ≤ 12 ∧ ∀ ts : List Str, (ts.length : Int) = n → (∀ t ∈ ts, nameS t) → ts.Nodup → P (.lst (ts.map D.str))
theorem ok__law_titles (T : Txt P w K mg) : FnOk P w K mg base CX0 6 T.a__law_titles T.fd__law_titles ["_law_bag_here", "_law_many"] (spD K 2 (dt__law_titles)) := by
  refine okD T.F__law_titles sc__law_titles rfl fun cdv A outer s H E c hr => ⟨_, _, (pss_cons (ps_set (i := 2) sc__law_titles.nd rfl (by first | exact Or.inl rfl | exact Or.inr rfl) (q_join pe_str (pe_lc (own := [("_law_k", 3)]) (by rfl) sc__law_titles.nd (pi_range1 (by rfl) T.b_range (pa_cons (pe_call ((ok__law_of T).mono (by decide)) hr (by rfl) T.g__law_of T.F__law_of.kp (bn__law_of T) .nil pass0 (pa_cons (pv 0) (pa_cons (pe_lst (pa_cons pe_int (pa_cons pe_int (pa_cons pe_int (pa_cons pe_int pa_nil))))) pa_nil))) pa_nil)) (blkOk_by (own := [("_law_k", 3)]) (N := ["_law_bag_here", "_law_many", "_law_stem", "_law_k", "_law_at", "_law_first", "_law_rows"]) (sc := defScope s__law_titles) (by decide +kernel)) (fun _ _ _ _ _ => (pg_name (i := 3) sc__law_titles.nd rfl (by first | exact Or.inl rfl | exact Or.inr rfl))) (fun _ _ _ _ _ => pts_nil) (fun _ _ _ _ _ => (pe_call ((ok__law_of T).mono (by decide)) hr (by rfl) T.g__law_of T.F__law_of.kp (bn__law_of T) .nil pass0 (pa_cons (pv 0) (pa_cons (pe_call0 ((ok__law_small T).mono (by decide)) hr (by rfl) T.g__law_small T.F__law_small.kp (bn__law_small T) .nil pass0) pa_nil))))))) (pss_cons (ps_asg (pe_tup (pa_cons (pe_call ((ok__law_pull T).mono (by decide)) hr (by rfl) T.g__law_pull T.F__law_pull.kp (bn__law_pull T) .nil pass0 (pa_cons (pv 0) (pa_cons (pe_op q_add (pe_callB q_len (by rfl) T.b_len (by decide +kernel) (pa_cons (pv 2) pa_nil)) pe_int) pa_nil))) (pa_cons (pe_call ((ok__law_pull T).mono (by decide)) hr (by rfl) T.g__law_pull T.F__law_pull.kp (bn__law_pull T) .nil pass0 (pa_cons (pv 0) (pa_cons pe_int pa_nil))) pa_nil))) (pg_tup rfl (pgs_cons (pg_name (i := 4) sc__law_titles.nd rfl (by first | exact Or.inl rfl | exact Or.inr rfl)) (pgs_cons (pg_name (i := 5) sc__law_titles.nd rfl (by first | exact Or.inl rfl | exact Or.inr rfl)) pgs_nil)))) (pss_cons (ps_set (i := 6) sc__law_titles.nd rfl (by first | exact Or.inl rfl | exact Or.inr rfl) (pe_op q_add (pe_call0 ((ok__law_small T).mono (by decide)) hr (by rfl) T.g__law_small T.F__law_small.kp (bn__law_small T) .nil pass0) (pe_call0 ((ok__law_small T).mono (by decide)) hr (by rfl) T.g__law_small T.F__law_small.kp (bn__law_small T) .nil pass0))) (pss_one (ps_ret (pe_lc (own := [("_law_k", 3)]) (by rfl) sc__law_titles.nd (pi_range1 (by rfl) T.b_range (pa_cons (pv 1) pa_nil)) (blkOk_by (own := [("_law_k", 3)]) (N := ["_law_bag_here", "_law_many", "_law_stem", "_law_k", "_law_at", "_law_first", "_law_rows"]) (sc := defScope s__law_titles) (by decide +kernel)) (fun _ _ _ _ _ => (pg_name (i := 3) sc__law_titles.nd rfl (by first | exact Or.inl rfl | exact Or.inr rfl))) (fun _ _ _ _ _ => pts_nil) (fun _ _ _ _ _ => (pe_op q_add (pe_op q_add (pe_slice q_sl (pv 2) po_none (po_some (pv 4))) (pe_ix q_ix (pv 6) (pe_op q_add (pv 5) (pv 3)) (fun _ _ => rfl))) (pe_slice q_sl (pv 2) (po_some (pv 4)) po_none))))))))), (sim_seq (sim_asg (sim_join sim_str (sim_lc (si_range1 (sim_call (sim_cons sim_var (sim_cons (sim_lst (sim_cons sim_int (sim_cons sim_int (sim_cons sim_int (sim_cons sim_int sim_nil))))) sim_nil)))) sgn_name sim_yes (sim_call (sim_cons sim_var (sim_cons (sim_call sim_nil) sim_nil))))) sgn_name.g) (sim_seq (sim_asg (sim_tup (sim_cons (sim_call (sim_cons sim_var (sim_cons (sim_op sr_add (sim_cb sc_len (sim_cons sim_var sim_nil)) sim_int) sim_nil))) (sim_cons (sim_call (sim_cons sim_var (sim_cons sim_int sim_nil))) sim_nil))) sgn_pair.g) (sim_seq (sim_asg (sim_op sr_add (sim_call sim_nil) (sim_call sim_nil)) sgn_name.g) (sim_ret (sim_lc (si_range1 sim_var) sgn_name sim_yes (sim_op sr_add (sim_op sr_add (sim_sl sim_var sim_noPart (sim_part sim_var)) (sim_op sr_ix sim_var (sim_op sr_add sim_var sim_var))) (sim_sl sim_var (sim_part sim_var) sim_noPart))))))), fun ds Pd Er hl hd => ?_⟩
  obtain ⟨b, n, hb, rfl, h1, h2, hd⟩ := hd
  walk_at "qs"
  refine seq_asg_cut (fun d => ∃ z : Str, d = .str z ∧ among z sLETTERS ∧ z.length ≤ 7) (fun P hP => ?_) fun d hd1 => ?_
  · walk_at "qd"
    refine ⟨by decide, b, _, _, hb, rfl, rfl, by simp, by simp, fun d hd1 => ?_⟩
    obtain ⟨k, rfl, k0, k7⟩ : ∃ k : Int, d = .int k ∧ 0 ≤ k ∧ k ≤ 7 := by
      simp only [List.mem_cons, List.not_mem_nil, or_false] at hd1
      rcases hd1 with rfl | rfl | rfl | rfl <;> exact ⟨_, rfl, by decide, by decide⟩
    walk_at "qd"
    refine ⟨by omega, by omega, ?_⟩
    refine lcGo_some (signOf sLETTERS) _ _ (fun x _ Q hQ => ?_) ?_ fun ds hl2 hds => ?_
    · walk_at "qd"
      refine ⟨rfl, ?_⟩
      refine ⟨b, .str sLETTERS, _, hb, rfl, rfl, walk_signs (by decide +kernel), ?_, fun d hd => hQ d (sign_mem hd)⟩
      rw [List.length_map, lenSMALL]
      decide
    · rw [len_rangeD]
      show 0 + k.toNat ≤ sizeLine
      have : sizeLine = 16777216 := sizeLine_eq
      omega
    · rw [len_rangeD] at hl2
      obtain ⟨ys, e1, e2, e3⟩ := join_end (P := fun z => P (.str z) false) hds (by omega) fun z hz hm => hP _ ⟨z, rfl, hm, by omega⟩
      rw [List.nil_append]
      refine optP_of e1 ?_
      exact ⟨e2, e3⟩
  obtain ⟨z, rfl, hz, hzl⟩ := hd1
  walk_at "qd"
  have z16 : z.length ≤ sizeLine := sl16 (by omega)
  refine ⟨z16, b, _, hb, rfl, by omega, by omega, fun p p0 p1 => ?_⟩
  walk_at "qd"
  refine ⟨b, 26, hb, rfl, by decide, by decide, fun f f0 f1 => ?_⟩
  walk_at "qd"
  obtain ⟨p, rfl⟩ : ∃ p' : Nat, p = p' := ⟨p.toNat, by omega⟩
  obtain ⟨f, rfl⟩ : ∃ p' : Nat, f = p' := ⟨f.toNat, by omega⟩
  have hp : p ≤ z.length := by omega
  unfold dt__law_small
  walk_at "qd"
  have l26 : sLETTERS.length = 26 := by decide +kernel
  refine ⟨by decide, sl16 (by omega), by omega, by omega, ?_⟩
  have hrow : (sLETTERS ++ sLETTERS).length = 52 := by decide +kernel
  refine lcGo_name (fun d => match d with | .int k => .str (titleS z p (rowsS.cps.toList.getD (f + k.toNat) 0)) | _ => .non) _ _ (fun d hd1 Q hQ => ?_) (by rw [len_rangeD]; exact sl16 (by show 0 + _ ≤ _; omega)) ?_
  · obtain ⟨k, hk, rfl⟩ := rangeD_mem hd1
    have hk12 : k < 12 := by omega
    have rl : (sLETTERS ++ sLETTERS).cps.toList.length = 52 := rows_len
    walk_at "qd"
    refine ⟨z16, sl16 (by omega), ?_⟩
    refine optP_of (a := rowsS.cps.toList.getD (f + k) 0) ?_ ?_
    · refine atI_nat (j := f + k) (by omega) ?_
      rw [List.getD_eq_getElem?_getD, List.getElem?_eq_getElem (by omega)]; rfl
    have c1 := cutS_len (z := z) (lo := none) (hi := some (p : Int))
    have c2 := cutS_len (z := z) (lo := some (p : Int)) (hi := none)
    have u1 : (⟨#[rowsS.cps.toList.getD (f + k) 0]⟩ : Str).length = 1 := rfl
    walk_at "qd"
    refine ⟨sl16 (by rw [u1]; omega), z16, sl16 (by rw [Str.length_append, u1]; omega), ?_⟩
    exact hQ
  · rw [List.nil_append]
    obtain ⟨t1, t2, t3⟩ := titles_ok (m := n.toNat) hp hz hzl (show f < 26 by omega) (by omega)
    have e : (rangeD 0 n.toNat).map (fun d => match d with | .int k => D.str (titleS z p (rowsS.cps.toList.getD (f + k.toNat) 0)) | _ => .non) = (titlesL z p f n.toNat).map D.str := by
      unfold rangeD titlesL
      rw [List.map_map, List.map_map]
      refine List.map_congr_left fun k hk => ?_
      show D.str (titleS z p (rowsS.cps.toList.getD (f + (0 + (k : Int)).toNat) 0)) = _
      rw [show (0 + (k : Int)).toNat = k by omega]
      rfl
    rw [e]
    exact hd _ (by rw [t1]; omega) t2 t3
theorem sc__law_mixed : FnScope ["_law_bag_here", "_law_some", "_law_left", "_law_found"] ["_law_bag_here", "_law_some"] (defScope s__law_mixed) := ⟨rfl, rfl, rfl, by decide +kernel, rfl, by decide +kernel, by decide +kernel⟩
def dt__law_mixed : DF := fun bag ds P _ => ∃ b s xs, bag = some b ∧ ds = [.raw (.ref b.1), s] ∧ s.items = some xs ∧ xs.length < 1000 ∧ pls xs = true ∧ deps xs ≤ 60 ∧ ∀ ys : List D, ys.Perm xs → P (.lst ys)
theorem ok__law_mixed (T : Txt P w K mg) : FnOk P w K mg base CX0 4 T.a__law_mixed T.fd__law_mixed ["_law_bag_here", "_law_some"] (spD K 2 (dt__law_mixed)) := by
  refine okD T.F__law_mixed sc__law_mixed rfl fun cdv A outer s H E c hr => ⟨_, _, (pss_cons (ps_par (i := 2) (j := 3) (by rfl) sc__law_mixed.nd rfl rfl (by decide) rfl rfl (pa_cons (pe_callTy q_listOf (by rfl) T.b_list (by decide +kernel) (pa_cons (pv 1) pa_nil)) (pa_cons (pe_lst pa_nil) pa_nil)) (by rfl)) (pss_cons (ps_while PassesOwn.never (pt_cmpR (q_ne (hu64 hr)) (pv 2) (pe_lst pa_nil) (nomark _)) (pss_one (ps_expr (pe_bm PySem.F.plainAttrs_list PySem.F.slot_list_append PySem.F.type_list_append mt_append (pv 3) (pa_cons (pe_bm PySem.F.plainAttrs_list PySem.F.slot_list_pop PySem.F.type_list_pop mt_popAt (pv 2) (pa_cons (pe_call ((ok__law_pull T).mono (by decide)) hr (by rfl) T.g__law_pull T.F__law_pull.kp (bn__law_pull T) .nil pass0 (pa_cons (pv 0) (pa_cons (pe_callB q_len (by rfl) T.b_len (by decide +kernel) (pa_cons (pv 2) pa_nil)) pa_nil))) pa_nil)) pa_nil))))) (pss_one (ps_ret (pv 3))))), (sim_seq (sim_parOO (sn_listOf sim_var) (sn_lst sim_nil) (by decide)) (sim_seq (sim_while (sim_test (sim_op sr_ne sim_var (sim_lst sim_nil))) (sim_append (sx_popAt (sim_call (sim_cons sim_var (sim_cons (sim_cb sc_len (sim_cons sim_var sim_nil)) sim_nil)))))) (sim_ret sim_var))), fun ds Pd Er hl hd => ?_⟩
  obtain ⟨b, s, xs, hb, rfl, hw, hl, hp, hdp, hd⟩ := hd
  walk_at "qd"
  refine optP_of hw ?_
  walk_at "qd"
  refine ⟨Nat.zero_le _, fun m ρ => ∃ rest found : List D, m = rest.length ∧ (found ++ rest).Perm xs ∧ ρ = [some (Ent.val (D.raw (V.ref b.fst))), some (Ent.val s), some (Ent.own (D.lst rest)), some (Ent.own (D.lst found))], ⟨_, xs, [], rfl, .refl _, rfl⟩, fun m ρ hW => ?_⟩
  obtain ⟨rest, found, rfl, hperm, rfl⟩ := hW
  have hpr : pls rest = true := pls_of fun d hd => pls_mem hp d (hperm.mem_iff.mp (List.mem_append_right _ hd))
  have hdr : deps rest ≤ 60 := deps_le fun d hd => Nat.le_trans (deps_mem (hperm.mem_iff.mp (List.mem_append_right _ hd))) hdp
  have hln := hperm.length_eq
  rw [List.length_append] at hln
  walk_at "qd"
  refine ⟨Nat.zero_le _, dNe_nil hpr hdr ?_⟩
  cases rest with
  | nil =>
    walk_at "qd"
    rw [List.append_nil] at hperm
    exact hd _ hperm
  | cons x r =>
    rw [show (!(x :: r).isEmpty) = true from rfl]
    walk_at "qd"
    rw [List.length_cons] at hln
    refine ⟨b, _, hb, rfl, by omega, by omega, fun k h0 h1 => ?_⟩
    refine ⟨⟨by omega, by omega⟩, ?_⟩
    have hk : k.toNat < (x :: r).length := by rw [List.length_cons]; omega
    refine optP_of (seqIx h0 h1) ?_
    refine optP_of (List.getElem?_eq_getElem hk) ?_
    walk_at "qd"
    have h16 : sizeLine = 16777216 := sizeLine_eq
    refine ⟨by omega, _, ?_, _, _, rfl, ?_, rfl⟩
    · rw [List.length_eraseIdx_of_lt hk, List.length_cons]
      omega
    · refine List.Perm.trans ?_ hperm
      rw [List.append_assoc]
      exact List.Perm.append_left _ (perm_eraseIdx hk)
theorem sc__law_duos : FnScope ["_law_bag_here", "_law_titles_here", "_law_share", "_law_order", "_law_found", "_law_at", "_law_late"] ["_law_bag_here", "_law_titles_here", "_law_share"] (defScope s__law_duos) := ⟨rfl, rfl, rfl, by decide +kernel, rfl, by decide +kernel, by decide +kernel⟩
/-- a stands ahead of b in the list -/
def ahead (o : List Str) (p : Pr) : Prop := ∃ i j : Nat, i < j ∧ o[i]? = some p.1 ∧ o[j]? = some p.2
def dt__law_duos : DF := fun bag ds P _ => ∃ (b : Addr × Addr) (ts : List Str) (n : Int), bag = some b ∧ ds = [.raw (.ref b.1), .lst (ts.map D.str), .int n] ∧ (∀ t ∈ ts, nameS t) ∧ ts.length ≤ 12 ∧ ∀ (o : List Str) (ps : List Pr), o.Perm ts → (∀ p ∈ ps, ahead o p) → ps.length ≤ 144 → P (.lst (ps.map pD))
theorem ok__law_duos (T : Txt P w K mg) : FnOk P w K mg base CX0 6 T.a__law_duos T.fd__law_duos ["_law_bag_here", "_law_titles_here", "_law_share"] (spD K 3 (dt__law_duos)) := by
  refine okD T.F__law_duos sc__law_duos rfl fun cdv A outer s H E c hr => ⟨_, _, (pss_cons (ps_par (i := 3) (j := 4) (by rfl) sc__law_duos.nd rfl rfl (by decide) rfl rfl (pa_cons (pe_call ((ok__law_mixed T).mono (by decide)) hr (by rfl) T.g__law_mixed T.F__law_mixed.kp (bn__law_mixed T) .nil pass0 (pa_cons (pv 0) (pa_cons (pv 1) pa_nil))) (pa_cons (pe_lst pa_nil) pa_nil)) (by rfl)) (pss_cons (ps_for PassesOwn.never (by rfl) (pi_range1 (by rfl) T.b_range (pa_cons (pe_callB q_len (by rfl) T.b_len (by decide +kernel) (pa_cons (pv 3) pa_nil)) pa_nil)) (pg_name (i := 5) sc__law_duos.nd rfl (by first | exact Or.inl rfl | exact Or.inr rfl)) (pss_one (ps_for PassesOwn.never (by rfl) (pi_any (pe_slice q_sl (pv 3) (po_some (pe_op q_add (pv 5) pe_int)) po_none)) (pg_name (i := 6) sc__law_duos.nd rfl (by first | exact Or.inl rfl | exact Or.inr rfl)) (pss_one (ps_if (pt_cmpR q_lt (pe_call ((ok__law_pull T).mono (by decide)) hr (by rfl) T.g__law_pull T.F__law_pull.kp (bn__law_pull T) .nil pass0 (pa_cons (pv 0) (pa_cons pe_int pa_nil))) (pv 2) (nomark _)) (pss_one (ps_expr (pe_bm PySem.F.plainAttrs_list PySem.F.slot_list_append PySem.F.type_list_append mt_append (pv 4) (pa_cons (pe_tup (pa_cons (pe_ix q_ix (pv 3) (pv 5) (fun _ _ => rfl)) (pa_cons (pv 6) pa_nil))) pa_nil)))) pss_nil))))) (pss_one (ps_ret (pe_call ((ok__law_mixed T).mono (by decide)) hr (by rfl) T.g__law_mixed T.F__law_mixed.kp (bn__law_mixed T) .nil pass0 (pa_cons (pv 0) (pa_cons (pv 4) pa_nil))))))), (sim_seq (sim_parVO (sim_call (sim_cons sim_var (sim_cons sim_var sim_nil))) (sn_lst sim_nil) (by decide)) (sim_seq (sim_for (si_range1 (sim_cb sc_len (sim_cons sim_var sim_nil))) sgn_name.g (sim_for (si_any (sim_sl sim_var (sim_part (sim_op sr_add sim_var sim_int)) sim_noPart)) sgn_name.g (sim_ifS (sim_test (sim_op sr_lt (sim_call (sim_cons sim_var (sim_cons sim_int sim_nil))) sim_var)) (sim_append (sx_E (sim_tup (sim_cons (sim_op sr_ix sim_var sim_var) (sim_cons sim_var sim_nil))))) sim_next))) (sim_ret (sim_call (sim_cons sim_var (sim_cons sim_var sim_nil)))))), fun ds Pd Er hl hd => ?_⟩
  obtain ⟨b, ts, n, hb, rfl, ht, hl, hd⟩ := hd
  walk_at "qd"
  refine ⟨b, .lst (ts.map D.str), ts.map D.str, hb, rfl, rfl, by rw [List.length_map]; omega, pls_names ht, by rw [deps_strs]; decide, fun ys hys => ?_⟩
  obtain ⟨o, rfl, ho⟩ := perm_strs hys
  have hol : o.length ≤ 12 := by rw [ho.length_eq]; exact hl
  walk_at "qd"
  refine ⟨Nat.zero_le _, by rw [List.length_map]; omega, by rw [List.length_map]; omega, ?_⟩
  have en : (((o.map D.str).length : Nat) : Int).toNat = o.length := by rw [List.length_map]; omega
  rw [en]
  refine dFor_inv (fun i ρ => ∃ ps x5 x6, ((∀ p ∈ ps, ahead o p) ∧ ps.length ≤ i * 12) ∧ ρ = [some (Ent.val (D.raw (V.ref b.fst))), some (Ent.val (D.lst (ts.map D.str))), some (Ent.val (D.int n)), some (Ent.val (D.lst (o.map D.str))), some (Ent.own (D.lst (ps.map pD))), x5, x6]) ⟨[], _, _, ⟨fun p h => by simp at h, by simp⟩, rfl⟩ (fun i x ρ hx hI N hN => ?_) (fun ρ hI => ?_)
  · obtain ⟨ps, x5, x6, ⟨h1, h2⟩, rfl⟩ := hI
    obtain ⟨hi, rfl⟩ := rangeD_get hx
    walk_at "qd"
    have ec : cutD (o.map D.str) (some ((i : Int) + 1)) none = (o.drop (i + 1)).map D.str := by
      rw [show (i : Int) + 1 = ((i + 1 : Nat) : Int) by omega, cut_drop (by rw [List.length_map]; omega), List.map_drop]
    rw [ec]
    refine dFor_inv (fun j ρ => ∃ qs x6, ((∀ p ∈ qs, ahead o p) ∧ qs.length ≤ i * 12 + j) ∧ ρ = [some (Ent.val (D.raw (V.ref b.fst))), some (Ent.val (D.lst (ts.map D.str))), some (Ent.val (D.int n)), some (Ent.val (D.lst (o.map D.str))), some (Ent.own (D.lst (qs.map pD))), some (Ent.val (D.int i)), x6]) ⟨ps, _, ⟨h1, by omega⟩, rfl⟩ (fun j x ρ hx hI N' hN' => ?_) (fun ρ hI => ?_)
    · obtain ⟨qs, x6, ⟨g1, g2⟩, rfl⟩ := hI
      rw [List.getElem?_map] at hx
      obtain ⟨t, ht', rfl⟩ := Option.map_eq_some_iff.mp hx
      rw [List.getElem?_drop] at ht'
      have hj := (List.getElem?_eq_some_iff.mp ht').1
      walk_at "qd"
      refine ⟨b, 4, hb, rfl, by decide, by decide, fun k k0 k1 => ?_⟩
      walk_at "qd"
      refine ite2 (fun hk => ?_) (fun hk => ?_)
      · walk_at "qd"
        have eo : o[i]? = some o[i] := List.getElem?_eq_getElem hi
        refine optP_of (a := .str o[i]) (atI_nat rfl (by rw [List.getElem?_map, eo]; rfl)) ?_
        walk_at "qd"
        refine ⟨by decide, sl16' (by rw [List.length_map]; omega), ?_⟩
        refine hN' _ ⟨qs ++ [(o[i], t)], _, ⟨fun p hp => ?_, by rw [List.length_append, List.length_singleton]; omega⟩, by rw [List.map_append]; rfl⟩
        rcases List.mem_append.mp hp with hp | hp
        · exact g1 p hp
        · rw [List.mem_singleton.mp hp]
          exact ⟨i, i + 1 + j, by omega, eo, ht'⟩
      · walk_at "qd"
        exact hN' _ ⟨qs, _, ⟨g1, by omega⟩, rfl⟩
    · obtain ⟨qs, x6, ⟨g1, g2⟩, rfl⟩ := hI
      rw [List.length_map, List.length_drop] at g2
      exact hN _ ⟨qs, _, _, ⟨g1, by omega⟩, rfl⟩
  · obtain ⟨ps, x5, x6, ⟨h1, h2⟩, rfl⟩ := hI
    rw [len_rangeD] at h2
    have h3 : ps.length ≤ 144 := Nat.le_trans h2 (by omega)
    walk_at "qd"
    have hpo : prsOk ps := fun p hp => by
      obtain ⟨i, j, _, e1, e2⟩ := h1 p hp
      exact ⟨ht _ (ho.mem_iff.mp (List.mem_of_getElem? e1)), ht _ (ho.mem_iff.mp (List.mem_of_getElem? e2))⟩
    refine ⟨b, .lst (ps.map pD), ps.map pD, hb, rfl, rfl, by rw [List.length_map]; omega, pls_pairs hpo, Nat.le_trans deps_pairs (by decide), fun ys hys => ?_⟩
    obtain ⟨qs, rfl, hq⟩ := perm_pairs hys
    exact hd o qs ho (fun p hp => h1 p (hq.mem_iff.mp hp)) (by rw [hq.length_eq]; exact h3)
theorem sc__law_closed : FnScope ["_law_duos_here", "_law_found", "_law_duo", "_law_more", "_law_late", "_law_a", "_law_b"] ["_law_duos_here"] (defScope s__law_closed) := ⟨rfl, rfl, rfl, by decide +kernel, rfl, by decide +kernel, by decide +kernel⟩
def dt__law_closed : DF := fun _ ds P _ => ∃ (ns : List Str) (ps : List Pr), ds = [.lst (ps.map pD)] ∧ (∀ p ∈ ps, p.1 ∈ ns ∧ p.2 ∈ ns) ∧ (∀ t ∈ ns, nameS t) ∧ ns.length ≤ 7 ∧ ps.length ≤ 1000 ∧ ∀ C : List Pr, IsC C ps → P (.lst (C.map pD))
structure Cl (ns : List Str) (ps C : List Pr) : Prop where
  sort : C.Pairwise fun p q => leP p q = true
  nod : C.Nodup
  inn : ∀ p, p ∈ ps → p ∈ C
  way : ∀ p, p ∈ C → Way ps p.1 p.2
theorem Cl.few {ns : List Str} {ps C : List Pr} (c : Cl ns ps C) (hp : ∀ p ∈ ps, p.1 ∈ ns ∧ p.2 ∈ ns) : ∀ p ∈ C, p.1 ∈ ns ∧ p.2 ∈ ns := fun p h => by
  obtain ⟨⟨x, hx⟩, ⟨y, hy⟩⟩ := (c.way p h).ends
  exact ⟨(hp _ hx).1, (hp _ hy).2⟩
theorem dist_few {ns : List Str} {C : List Pr} (h : ∀ p ∈ C, p.1 ∈ ns ∧ p.2 ∈ ns) (hl : ns.length ≤ 7) : (distK C).length ≤ 49 := by
  have := few_pairs (ns := ns) (QD.nodup_dist C) fun p hp => h p (mem_dist.mp hp)
  have z : ns.length * ns.length ≤ 7 * 7 := Nat.mul_le_mul hl hl
  omega
theorem Cl.next {ns : List Str} {ps C L : List Pr} (c : Cl ns ps C) (h : ∀ p ∈ L, Way ps p.1 p.2) : Cl ns ps (sortP (distK (C ++ L))) where
  sort := sortP_sorted _
  nod := (sortP_perm _).nodup_iff.mpr (QD.nodup_dist _)
  inn := fun p hp => (sortP_perm _).mem_iff.mpr (mem_dist.mpr (List.mem_append_left _ (c.inn p hp)))
  way := fun p hp => (List.mem_append.mp (mem_dist.mp ((sortP_perm _).mem_iff.mp hp))).elim (c.way p) (h p)
theorem mem_next {C L : List Pr} {p : Pr} : p ∈ sortP (distK (C ++ L)) ↔ p ∈ C ∨ p ∈ L := by
  rw [(sortP_perm _).mem_iff, mem_dist, List.mem_append]
theorem ok__law_closed (T : Txt P w K mg) : FnOk P w K mg base CX0 2 T.a__law_closed T.fd__law_closed ["_law_duos_here"] (spD K 1 (dt__law_closed)) := by
  refine okD T.F__law_closed sc__law_closed rfl fun cdv A outer s H E c hr => ⟨_, _, (pss_cons (ps_set (i := 1) sc__law_closed.nd rfl (by first | exact Or.inl rfl | exact Or.inr rfl) (pe_sortSet (by rfl) (hu64 hr) (by rfl) T.b_sorted (by decide +kernel) (by rfl) T.b_set (pe_lc (own := [("_law_duo", 2)]) (by rfl) sc__law_closed.nd (pi_any (pv 0)) (blkOk_by (own := [("_law_duo", 2)]) (N := ["_law_duos_here", "_law_found", "_law_duo", "_law_more", "_law_late", "_law_a", "_law_b"]) (sc := defScope s__law_closed) (by decide +kernel)) (fun _ _ _ _ _ => (pg_name (i := 2) sc__law_closed.nd rfl (by first | exact Or.inl rfl | exact Or.inr rfl))) (fun _ _ _ _ _ => pts_nil) (fun _ _ _ _ _ => (pe_tup (pa_cons (pe_ix q_ix (pv 2) pe_int (fun _ _ => rfl)) (pa_cons (pe_ix q_ix (pv 2) pe_int (fun _ _ => rfl)) pa_nil))))))) (pss_cons (ps_set (i := 3) sc__law_closed.nd rfl (by first | exact Or.inl rfl | exact Or.inr rfl) pe_bl) (pss_cons (ps_while PassesOwn.never (pt_val (pv 3)) (pss_cons (ps_set (i := 4) sc__law_closed.nd rfl (by first | exact Or.inl rfl | exact Or.inr rfl) (pe_lst pa_nil)) (pss_cons (ps_for PassesOwn.never (by rfl) (pi_any (pv 1)) (pg_tup rfl (pgs_cons (pg_name (i := 5) sc__law_closed.nd rfl (by first | exact Or.inl rfl | exact Or.inr rfl)) (pgs_cons (pg_name (i := 6) sc__law_closed.nd rfl (by first | exact Or.inl rfl | exact Or.inr rfl)) pgs_nil))) (pss_one (ps_set (i := 4) sc__law_closed.nd rfl (by first | exact Or.inl rfl | exact Or.inr rfl) (pe_op q_add (pv 4) (pe_lc (own := [("_law_duo", 2)]) (by rfl) sc__law_closed.nd (pi_any (pv 1)) (blkOk_by (own := [("_law_duo", 2)]) (N := ["_law_duos_here", "_law_found", "_law_duo", "_law_more", "_law_late", "_law_a", "_law_b"]) (sc := defScope s__law_closed) (by decide +kernel)) (fun _ _ _ _ _ => (pg_name (i := 2) sc__law_closed.nd rfl (by first | exact Or.inl rfl | exact Or.inr rfl))) (fun _ _ _ _ _ => (pts_one (pt_cmpR (q_eq (hu64 hr)) (pe_ix q_ix (pv 2) pe_int (fun _ _ => rfl)) (pv 6) (nomark _)))) (fun _ _ _ _ _ => (pe_tup (pa_cons (pv 5) (pa_cons (pe_ix q_ix (pv 2) pe_int (fun _ _ => rfl)) pa_nil))))))))) (pss_cons (ps_setLc (i := 4) (own := [("_law_duo", 2)]) (by rfl) sc__law_closed.nd rfl rfl (sw_true rfl rfl rfl (by decide +kernel)) (pi_any (pv 4)) (blkOk_by (own := [("_law_duo", 2)]) (N := ["_law_duos_here", "_law_found", "_law_duo", "_law_more", "_law_late", "_law_a", "_law_b"]) (sc := defScope s__law_closed) (by decide +kernel)) (fun _ _ _ _ _ => (pg_name (i := 2) sc__law_closed.nd rfl (by first | exact Or.inl rfl | exact Or.inr rfl))) (fun _ _ _ _ _ => (pts_one (pt_cmpR (q_ninWK (K := K) rfl (hu65 hr)) (pv 2) (pv 1) rfl))) (fun _ _ _ _ _ => (pv 2))) (pss_cons (ps_set (i := 3) sc__law_closed.nd rfl (by first | exact Or.inl rfl | exact Or.inr rfl) (pe_cmpR (q_ne (hu64 hr)) (pv 4) (pe_lst pa_nil) (nomark _))) (pss_one (ps_set (i := 1) sc__law_closed.nd rfl (by first | exact Or.inl rfl | exact Or.inr rfl) (pe_sortSet (by rfl) (hu64 hr) (by rfl) T.b_sorted (by decide +kernel) (by rfl) T.b_set (pe_op q_add (pv 1) (pv 4)))))))))) (pss_one (ps_ret (pv 1)))))), (sim_seq (sim_asg (sim_sortSet (sim_lc (si_any sim_var) sgn_name sim_yes (sim_tup (sim_cons (sim_op sr_ix sim_var sim_int) (sim_cons (sim_op sr_ix sim_var sim_int) sim_nil))))) sgn_name.g) (sim_seq (sim_asg sim_bl sgn_name.g) (sim_seq (sim_while (sim_B sim_var) (sim_seq (sim_asg (sim_lst sim_nil) sgn_name.g) (sim_seq (sim_for (si_any sim_var) sgn_pair.g (sim_asg (sim_op sr_add sim_var (sim_lc (si_any sim_var) sgn_name (sim_test (sim_op sr_eq (sim_op sr_ix sim_var sim_int) sim_var)) (sim_tup (sim_cons sim_var (sim_cons (sim_op sr_ix sim_var sim_int) sim_nil))))) sgn_name.g)) (sim_seq (sim_asg (sim_lc (si_any sim_var) sgn_name (sim_test (sim_op sr_inW sim_var sim_var)) sim_var) sgn_name.g) (sim_seq (sim_asg (sim_op sr_ne sim_var (sim_lst sim_nil)) sgn_name.g) (sim_asg (sim_sortSet (sim_op sr_add sim_var sim_var)) sgn_name.g)))))) (sim_ret sim_var)))), fun ds Pd Er hl hd => ?_⟩
  obtain ⟨ns, ps, rfl, hp, hn, hl, hps, hd⟩ := hd
  have hok : ∀ {C : List Pr}, (∀ p ∈ C, p.1 ∈ ns ∧ p.2 ∈ ns) → prsOk C := fun h p hm => ⟨hn _ (h p hm).1, hn _ (h p hm).2⟩
  walk_at "qd"
  refine lcGo_name id _ _ (fun d hd1 Q hQ => ?_) (by rw [List.length_map]; exact sl16 (by show 0 + _ ≤ _; omega)) ?_
  · obtain ⟨p, hm, rfl⟩ := List.mem_map.mp hd1
    walk_at "qd"
    unfold pD
    walk_at "qd"
    refine ⟨by show 2 ≤ sizeLine; decide, ?_⟩
    exact hQ
  rw [List.nil_append, List.map_id]
  refine optP_of (pairsOf_map ps) ⟨by have := dist_few hp hl; omega, ?_⟩
  have c0 : Cl ns ps (sortP (distK ps)) := ⟨sortP_sorted _, (sortP_perm _).nodup_iff.mpr (QD.nodup_dist _), fun p h => (sortP_perm _).mem_iff.mpr (mem_dist.mpr h), fun p h => .one (mem_dist.mp ((sortP_perm _).mem_iff.mp h))⟩
  generalize sortP (distK ps) = C0 at c0
  walk_at "qd"
  refine ⟨fun m ρ => ∃ C more x4 x5 x6, (Cl ns ps C ∧ (more = false → trn C) ∧ m = 50 - C.length + (if more = true then 1 else 0)) ∧ ρ = [some (Ent.val (D.lst (ps.map pD))), some (Ent.val (D.lst (C.map pD))), none, some (Ent.val (D.bl more)), x4, x5, x6], ⟨_, C0, true, _, _, _, ⟨c0, fun h => (by cases h), rfl⟩, rfl⟩, fun m ρ hW => ?_⟩
  obtain ⟨C, more, x4, x5, x6, ⟨c, hm, rfl⟩, rfl⟩ := hW
  have hC := c.few hp
  have hCl : C.length ≤ 49 := by
    have := few_pairs c.nod hC
    have z : ns.length * ns.length ≤ 7 * 7 := Nat.mul_le_mul hl hl
    omega
  cases more with
  | false =>
    walk_at "qd"
    exact hd C ⟨c.sort, c.nod, fun a b => ⟨c.way (a, b), fun w => w.into c.inn (hm rfl)⟩⟩
  | true =>
    walk_at "qd"
    refine ⟨Nat.zero_le _, ?_⟩
    refine dFor_inv (fun i ρ => ∃ L x5 x6, ((∀ p : Pr, p ∈ L ↔ ∃ q ∈ C.take i, ∃ r ∈ C, r.1 = q.2 ∧ p = (q.1, r.2)) ∧ L.length ≤ i * 49) ∧ ρ = [some (Ent.val (D.lst (ps.map pD))), some (Ent.val (D.lst (C.map pD))), none, some (Ent.val (D.bl true)), some (Ent.val (D.lst (L.map pD))), x5, x6]) ⟨[], _, _, ⟨fun p => by simp, by simp⟩, rfl⟩ (fun i x ρ hx hI N hN => ?_) (fun ρ hI => ?_)
    · obtain ⟨L, x5, x6, ⟨mL, lL⟩, rfl⟩ := hI
      rw [List.getElem?_map] at hx
      obtain ⟨q, hq, rfl⟩ := Option.map_eq_some_iff.mp hx
      rw [show pD q = .tup [.str q.1, .str q.2] from rfl]
      walk_at "qd"
      have hqC := List.mem_of_getElem? hq
      refine lc_prs (fun r => decide (r.1 = q.2)) (fun r => (q.1, r.2)) C (by omega) (fun r hr Q hQ => ?_) (fun r hr _ Q hQ => ?_) ?_
      · rw [show pD r = .tup [.str r.1, .str r.2] from rfl]
        walk_at "qd"
        refine dEq_str (nameS_ok (hok hC r hr).1) (nameS_ok (hok hC q hqC).2) ?_
        exact hQ
      · rw [show pD r = .tup [.str r.1, .str r.2] from rfl]
        walk_at "qd"
        refine ⟨by decide, ?_⟩
        exact hQ
      · walk_at "qd"
        have lf : (C.filter fun r => decide (r.1 = q.2)).length ≤ 49 := Nat.le_trans (List.length_filter_le _ _) hCl
        refine ⟨sl16 (by rw [List.length_map, List.length_map, List.length_map]; have hi := (List.getElem?_eq_some_iff.mp hq).1; omega), ?_⟩
        rw [← List.map_append]
        refine hN _ ⟨_, _, _, ⟨fun p => ?_, by rw [List.length_append, List.length_map]; omega⟩, rfl⟩
        rw [List.mem_append, mL p, List.take_succ, hq]
        constructor
        · rintro (⟨z, hz, r, hr, e⟩ | h)
          · exact ⟨z, List.mem_append_left _ hz, r, hr, e⟩
          · obtain ⟨r, hr, rfl⟩ := List.mem_map.mp h
            obtain ⟨h1, h2⟩ := List.mem_filter.mp hr
            exact ⟨q, List.mem_append_right _ (by simp), r, h1, of_decide_eq_true h2, rfl⟩
        · rintro ⟨z, hz, r, hr, e, rfl⟩
          rcases List.mem_append.mp hz with hz | hz
          · exact .inl ⟨z, hz, r, hr, e, rfl⟩
          · rw [show z = q by simpa using hz] at e ⊢
            exact .inr (List.mem_map.mpr ⟨r, List.mem_filter.mpr ⟨hr, decide_eq_true e⟩, rfl⟩)
    · obtain ⟨L, x5, x6, ⟨mL, lL⟩, rfl⟩ := hI
      rw [List.length_map, List.take_length] at mL
      rw [List.length_map] at lL
      have hL : ∀ p ∈ L, Way ps p.1 p.2 := fun p h => by
        obtain ⟨q, hq, r, hr, e, rfl⟩ := (mL p).mp h
        exact (c.way q hq).trans (e ▸ c.way r hr)
      have hLn : ∀ p ∈ L, p.1 ∈ ns ∧ p.2 ∈ ns := fun p h => by
        obtain ⟨⟨x, hx⟩, ⟨y, hy⟩⟩ := (hL p h).ends
        exact ⟨(hp _ hx).1, (hp _ hy).2⟩
      have lL' : L.length ≤ 2401 := by
        have : C.length * 49 ≤ 49 * 49 := Nat.mul_le_mul hCl (Nat.le_refl _)
        omega
      walk_at "qd"
      refine lc_prs (fun p => !decide (p ∈ C)) id L (by omega) (fun r hr Q hQ => ?_) (fun r hr _ Q hQ => ?_) ?_
      · walk_at "qd"
        exact nin_pair (P := fun z => asBl z Q) (hok hC) (hok hLn r hr) (by omega) hQ
      · walk_at "qd"
        exact hQ
      rw [List.map_id]
      generalize hLL : L.filter (fun p => !decide (p ∈ C)) = L'
      have mL' : ∀ p, p ∈ L' ↔ p ∈ L ∧ p ∉ C := fun p => by
        rw [← hLL, List.mem_filter]
        simp
      have lL2 : L'.length ≤ 2401 := by rw [← hLL]; exact Nat.le_trans (List.length_filter_le _ _) lL'
      walk_at "qd"
      have hLn' : ∀ p ∈ L', p.1 ∈ ns ∧ p.2 ∈ ns := fun p h => hLn p ((mL' p).mp h).1
      refine ⟨Nat.zero_le _, dNe_nil (pls_pairs (hok hLn')) (Nat.le_trans deps_pairs (by decide)) ?_⟩
      walk_at "qd"
      refine ⟨sl16 (by rw [List.length_map, List.length_map]; omega), ?_⟩
      rw [← List.map_append]
      have hCL : ∀ p ∈ C ++ L', p.1 ∈ ns ∧ p.2 ∈ ns := fun p h => (List.mem_append.mp h).elim (hC p) (hLn' p)
      refine optP_of (pairsOf_map (C ++ L')) ⟨by have := dist_few hCL hl; omega, ?_⟩
      have cn := c.next (L := L') fun p h => hL p ((mL' p).mp h).1
      walk_at "qd"
      cases hE : L' with
      | nil =>
        refine ⟨50 - C.length, by omega, sortP (distK (C ++ [])), false, _, _, _, ⟨by rw [← hE]; exact cn, fun _ => ?_, ?_⟩, rfl⟩
        · intro a b d h1 h2
          have h1 := (mem_next.mp h1).elim id fun z => by simp at z
          have h2 := (mem_next.mp h2).elim id fun z => by simp at z
          refine mem_next.mpr (.inl (Classical.byContradiction fun h => ?_))
          have : (a, d) ∈ L' := (mL' _).mpr ⟨(mL _).mpr ⟨(a, b), h1, (b, d), h2, rfl, rfl⟩, h⟩
          rw [hE] at this
          simp at this
        · have : (sortP (distK (C ++ []))).length = C.length := by
            have p : (sortP (distK (C ++ []))).Perm C := by
              refine (List.perm_ext_iff_of_nodup (by rw [← hE]; exact cn.nod) c.nod).mpr fun p => ?_
              rw [mem_next]
              simp
            exact p.length_eq
          rw [this]
          simp
      | cons x r =>
        have hx : x ∉ C := ((mL' x).mp (by rw [hE]; exact List.mem_cons_self)).2
        have big : C.length + 1 ≤ (sortP (distK (C ++ L'))).length := by
          have := QD.nodup_len (l := x :: C) (m := sortP (distK (C ++ L'))) (List.nodup_cons.mpr ⟨hx, c.nod⟩) fun p hp' => by
            rcases List.mem_cons.mp hp' with rfl | h
            · exact mem_next.mpr (.inr (by rw [hE]; exact List.mem_cons_self))
            · exact mem_next.mpr (.inl h)
          exact this
        have lim : (sortP (distK (C ++ L'))).length ≤ 49 := by
          have := few_pairs cn.nod (cn.few hp)
          have z : ns.length * ns.length ≤ 7 * 7 := Nat.mul_le_mul hl hl
          omega
        have eb : (!(L'.map pD).isEmpty) = true := by rw [hE]; rfl
        rw [← hE, eb]
        exact ⟨50 - (sortP (distK (C ++ L'))).length + 1, by omega, sortP (distK (C ++ L')), true, _, _, _, ⟨cn, fun h => (by cases h), rfl⟩, rfl⟩
theorem sc__is_made_of : FnScope ["value", "characters", "most", "character"] ["value", "characters", "most"] (defScope s__is_made_of) := ⟨rfl, rfl, rfl, by decide +kernel, rfl, by decide +kernel, by decide +kernel⟩
def dt__is_made_of : DF := fun _ ds P _ => ∃ d cs m, ds = [d, .str cs, .int m] ∧ okArg d ∧ P (.bl (madeD d cs m))
theorem ok__is_made_of (T : Txt P w K mg) : FnOk P w K mg base CX0 2 T.a__is_made_of T.fd__is_made_of ["value", "characters", "most"] (spD K 3 (dt__is_made_of)) := by
  refine okD T.F__is_made_of sc__is_made_of rfl fun cdv A outer s H E c hr => ⟨_, _, (pss_cons (ps_if (PW.pt (pw_or (pt_not (pt_val (pe_callB call_isi (by rfl) T.b_isinstance (by decide +kernel) (pa_cons (pv 0) (pa_cons (pe_bltn (v := .ty "str") (by rfl) T.b_str PyProof.Rows.boot_str rfl) pa_nil))))) (pw_or (pt_cmpR q_lt (pe_callB q_len (by rfl) T.b_len (by decide +kernel) (pa_cons (pv 0) pa_nil)) pe_int (nomark _)) (pw_or1 (pt_cmpR q_gt (pe_callB q_len (by rfl) T.b_len (by decide +kernel) (pa_cons (pv 0) pa_nil)) (pv 2) (nomark _)))))) (pss_one (ps_ret pe_bl)) pss_nil) (pss_one (ps_ret (pe_callB (cr_all (by rfl)) (by rfl) T.b_all (by decide +kernel) (pa_cons (pe_lc (own := [("character", 3)]) (by rfl) sc__is_made_of.nd (pi_any (pv 0)) (blkOk_by (own := [("character", 3)]) (N := ["value", "characters", "most", "character"]) (sc := defScope s__is_made_of) (by decide +kernel)) (fun _ _ _ _ _ => (pg_name (i := 3) sc__is_made_of.nd rfl (by first | exact Or.inl rfl | exact Or.inr rfl))) (fun _ _ _ _ _ => pts_nil) (fun _ _ _ _ _ => (pe_cmpR q_in (pv 3) (pv 1) rfl))) pa_nil))))), (sim_seq (sim_ifS (sim_or (sim_not (sim_B (sim_cb sc_isi (sim_cons sim_var (sim_cons sim_ty sim_nil))))) (sim_or (sim_test (sim_op sr_lt (sim_cb sc_len (sim_cons sim_var sim_nil)) sim_int)) (sim_test (sim_op sr_gt (sim_cb sc_len (sim_cons sim_var sim_nil)) sim_var)))) (sim_ret sim_bl) sim_next) (sim_ret (sim_cb sc_all (sim_cons (sim_lc (si_any sim_var) sgn_name sim_yes (sim_op sr_in sim_var sim_var)) sim_nil)))), fun ds Pd Er hl hd => ?_⟩
  obtain ⟨d, cs, m, rfl, ok, hd⟩ := hd
  cases d with
  | str x =>
    walk_at "qd"
    refine ⟨ok, ite2 (fun h1 => ?_) (fun h1 => ?_)⟩
    · walk_at "qd"
      rw [made_false fun z => by have := of_decide_eq_true h1; omega] at hd
      exact hd
    walk_at "qd"
    refine ⟨ok, ite2 (fun h2 => ?_) (fun h2 => ?_)⟩
    · walk_at "qd"
      rw [made_false fun z => by have := of_decide_eq_true h2; omega] at hd
      exact hd
    walk_at "qd"
    have h1' : ¬ (x.length : Int) < 1 := fun z => h1 (decide_eq_true z)
    have h2' : ¬ (x.length : Int) > m := fun z => h2 (decide_eq_true z)
    rw [made_true ⟨by omega, by omega⟩] at hd
    exact lc_signs ok (fun k Q q => q) hd
  | ins _ _ => exact ok.elim
  | raw _ => exact ok.elim
  | lam _ => exact ok.elim
  | dk _ => exact ok.elim
  | dt _ => exact ok.elim
  | _ =>
    walk_at "qd"
    exact hd
theorem sc_is_letter_word : FnScope ["value"] ["value"] (defScope s_is_letter_word) := ⟨rfl, rfl, rfl, by decide +kernel, rfl, by decide +kernel, by decide +kernel⟩
def dt_is_letter_word : DF := fun _ ds P _ => ∃ d, ds = [d] ∧ okArg d ∧ P (.bl (madeD d sLETTERS 8))
theorem ok_is_letter_word (T : Txt P w K mg) : FnOk P w K mg base CX0 4 T.a_is_letter_word T.fd_is_letter_word ["value"] (spD K 1 (dt_is_letter_word)) := by
  refine okD T.F_is_letter_word sc_is_letter_word rfl fun cdv A outer s H E c hr => ⟨_, _, (pss_one (ps_ret (pe_call ((ok__is_made_of T).mono (by decide)) hr (by rfl) T.g__is_made_of T.F__is_made_of.kp (bn__is_made_of T) .nil pass0 (pa_cons (pv 0) (pa_cons (pe_glob (v := .str "abcdefghijklmnopqrstuvwxyz") (by rfl) T.g_LETTERS ⟨_, rfl⟩) (pa_cons (pe_glob (v := .int 8) (by rfl) T.g_MOST_LETTERS ⟨_, rfl⟩) pa_nil)))))), (sim_ret (sim_call (sim_cons sim_var (sim_cons sim_str (sim_cons sim_int sim_nil))))), fun ds Pd Er hl hd => ?_⟩
  obtain ⟨d, rfl, ok, hd⟩ := hd
  walk_at "qd"
  exact ⟨d, _, _, rfl, ok, hd⟩
theorem sc_is_name : FnScope ["value"] ["value"] (defScope s_is_name) := ⟨rfl, rfl, rfl, by decide +kernel, rfl, by decide +kernel, by decide +kernel⟩
def dt_is_name : DF := fun _ ds P _ => ∃ d, ds = [d] ∧ okArg d ∧ P (.bl (madeD d sLETTERS 8))
theorem ok_is_name (T : Txt P w K mg) : FnOk P w K mg base CX0 6 T.a_is_name T.fd_is_name ["value"] (spD K 1 (dt_is_name)) := by
  refine okD T.F_is_name sc_is_name rfl fun cdv A outer s H E c hr => ⟨_, _, (pss_one (ps_ret (pe_call ((ok_is_letter_word T).mono (by decide)) hr (by rfl) T.g_is_letter_word T.F_is_letter_word.kp (bn_is_letter_word T) .nil pass0 (pa_cons (pv 0) pa_nil)))), (sim_ret (sim_call (sim_cons sim_var sim_nil))), fun ds Pd Er hl hd => ?_⟩
  obtain ⟨d, rfl, ok, hd⟩ := hd
  walk_at "qd"
  exact ⟨d, rfl, ok, hd⟩
theorem sc__check_names : FnScope ["names", "name", "at"] ["names"] (defScope s__check_names) := ⟨rfl, rfl, rfl, by decide +kernel, rfl, by decide +kernel, by decide +kernel⟩
def dt__check_names : DF := fun _ ds P _ => ∃ ws : List Str, ds = [.lst (ws.map D.str)] ∧ ws.length ≤ 12 ∧ (∀ t ∈ ws, nameS t) ∧ ws.Nodup ∧ P .non
theorem ok__check_names (T : Txt P w K mg) : FnOk P w K mg base CX0 8 T.a__check_names T.fd__check_names ["names"] (spD K 1 (dt__check_names)) := by
  refine okD T.F__check_names sc__check_names rfl fun cdv A outer s H E c hr => ⟨_, _, (pss_cons (ps_if (pt_cmpR q_gt (pe_callB q_len (by rfl) T.b_len (by decide +kernel) (pa_cons (pv 0) pa_nil)) (pe_glob (v := .int 12) (by rfl) T.g_MOST_NAMES ⟨_, rfl⟩) (nomark _)) (pss_one ps_no) pss_nil) (pss_cons (ps_for PassesOwn.never (by rfl) (pi_any (pv 0)) (pg_name (i := 1) sc__check_names.nd rfl (by first | exact Or.inl rfl | exact Or.inr rfl)) (pss_one (ps_if (pt_not (pt_val (pe_call ((ok_is_name T).mono (by decide)) hr (by rfl) T.g_is_name T.F_is_name.kp (bn_is_name T) .nil pass0 (pa_cons (pv 1) pa_nil)))) (pss_one ps_no) pss_nil))) (pss_one (ps_for PassesOwn.never (by rfl) (pi_enum (by rfl) T.b_enumerate (pa_cons (pv 0) pa_nil)) (pg_tup rfl (pgs_cons (pg_name (i := 2) sc__check_names.nd rfl (by first | exact Or.inl rfl | exact Or.inr rfl)) (pgs_cons (pg_name (i := 1) sc__check_names.nd rfl (by first | exact Or.inl rfl | exact Or.inr rfl)) pgs_nil))) (pss_one (ps_if (pt_cmpR q_in (pv 1) (pe_slice q_sl (pv 0) po_none (po_some (pv 2))) rfl) (pss_one ps_no) pss_nil)))))), (sim_seq (sim_ifS (sim_test (sim_op sr_gt (sim_cb sc_len (sim_cons sim_var sim_nil)) sim_int)) sim_noS sim_next) (sim_seq (sim_for (si_any sim_var) sgn_name.g (sim_ifS (sim_not (sim_B (sim_call (sim_cons sim_var sim_nil)))) sim_noS sim_next)) (sim_for (si_enum sim_var) sgn_pair.g (sim_ifS (sim_test (sim_op sr_in sim_var (sim_sl sim_var sim_noPart (sim_part sim_var)))) sim_noS sim_next)))), fun ds Pd Er hl hd => ?_⟩
  obtain ⟨ws, rfl, hl, hw, hn, hd⟩ := hd
  walk_at "qd"
  refine ite_f (by rw [List.length_map]; simp; omega) ?_
  walk_at "qd"
  refine dFor_inv (fun i ρ => ∃ x1, ρ = [some (Ent.val (.lst (ws.map D.str))), x1, none]) ⟨_, rfl⟩ (fun i x ρ hx hI N hN => ?_) (fun ρ hI => ?_)
  · obtain ⟨x1, rfl⟩ := hI
    rw [List.getElem?_map] at hx
    obtain ⟨t, ht, rfl⟩ := Option.map_eq_some_iff.mp hx
    have hm := List.mem_of_getElem? ht
    walk_at "qd"
    refine ⟨.str t, rfl, nameS_arg (hw t hm), ?_⟩
    rw [nameS_made (hw t hm)]
    walk_at "qd"
    exact hN _ ⟨_, rfl⟩
  · obtain ⟨x1, rfl⟩ := hI
    walk_at "qd"
    refine dFor_inv (fun i ρ => ∃ x1 x2, ρ = [some (Ent.val (.lst (ws.map D.str))), x1, x2]) ⟨_, _, rfl⟩ (fun i x ρ hx hI N hN => ?_) (fun ρ hI => ?_)
    · obtain ⟨x1, x2, rfl⟩ := hI
      obtain ⟨t, ht, rfl⟩ := enum_strs hx
      have hi := (List.getElem?_eq_some_iff.mp ht).1
      walk_at "qd"
      refine optP_of (a := false) ?_ ?_
      · have h := inG_strs (x := t) (ws := ws.take i)
        have hno : t ∉ ws.take i := fun z => by
          obtain ⟨m, hm, e⟩ := List.mem_iff_getElem.mp z
          rw [List.getElem_take] at e
          rw [List.length_take] at hm
          have := (List.pairwise_iff_getElem.mp hn) m i (by omega) hi (by omega)
          rw [(List.getElem?_eq_some_iff.mp ht).2] at this
          exact this e
        rw [cut_take (by rw [List.length_map]; omega), ← List.map_take]
        exact h.trans (by rw [decide_eq_false hno])
      walk_at "qd"
      exact hN _ ⟨_, _, rfl⟩
    · obtain ⟨x1, x2, rfl⟩ := hI
      walk_at "qd"
      exact hd
theorem sc__check_pairs : FnScope ["names", "pairs", "pair", "name"] ["names", "pairs"] (defScope s__check_pairs) := ⟨rfl, rfl, rfl, by decide +kernel, rfl, by decide +kernel, by decide +kernel⟩
def dt__check_pairs : DF := fun _ ds P _ => ∃ (ws : List Str) (ps : List Pr), ds = [.lst (ws.map D.str), .lst (ps.map pD)] ∧ (∀ p ∈ ps, p.1 ∈ ws ∧ p.2 ∈ ws) ∧ P .non
theorem ok__check_pairs (T : Txt P w K mg) : FnOk P w K mg base CX0 2 T.a__check_pairs T.fd__check_pairs ["names", "pairs"] (spD K 2 (dt__check_pairs)) := by
  refine okD T.F__check_pairs sc__check_pairs rfl fun cdv A outer s H E c hr => ⟨_, _, (pss_one (ps_for PassesOwn.never (by rfl) (pi_any (pv 1)) (pg_name (i := 2) sc__check_pairs.nd rfl (by first | exact Or.inl rfl | exact Or.inr rfl)) (pss_one (ps_for PassesOwn.never (by rfl) (pi_any (pv 2)) (pg_name (i := 3) sc__check_pairs.nd rfl (by first | exact Or.inl rfl | exact Or.inr rfl)) (pss_one (ps_if (pt_cmpR q_notin (pv 3) (pv 0) rfl) (pss_one ps_no) pss_nil)))))), (sim_for (si_any sim_var) sgn_name.g (sim_for (si_any sim_var) sgn_name.g (sim_ifS (sim_test (sim_op sr_notin sim_var sim_var)) sim_noS sim_next))), fun ds Pd Er hl hd => ?_⟩
  obtain ⟨ws, ps, rfl, hp, hd⟩ := hd
  walk_at "qd"
  refine dFor_inv (fun i ρ => ∃ x2 x3, ρ = [some (Ent.val (.lst (ws.map D.str))), some (Ent.val (.lst (ps.map pD))), x2, x3]) ⟨_, _, rfl⟩ (fun i x ρ hx hI N hN => ?_) (fun ρ hI => ?_)
  · obtain ⟨x2, x3, rfl⟩ := hI
    rw [List.getElem?_map] at hx
    obtain ⟨p, ht, rfl⟩ := Option.map_eq_some_iff.mp hx
    have hm := List.mem_of_getElem? ht
    unfold pD
    walk_at "qd"
    refine dFor_inv (fun i ρ => ∃ x3, ρ = [some (Ent.val (.lst (ws.map D.str))), some (Ent.val (.lst (ps.map pD))), some (Ent.val (pD p)), x3]) ⟨_, rfl⟩ (fun i x ρ hx hI N hN => ?_) (fun ρ hI => ?_)
    · obtain ⟨x3, rfl⟩ := hI
      obtain ⟨t, rfl, ht⟩ : ∃ t, x = .str t ∧ t ∈ ws := by
        have := List.mem_of_getElem? hx
        simp only [List.mem_cons, List.not_mem_nil, or_false] at this
        rcases this with rfl | rfl
        · exact ⟨_, rfl, (hp p hm).1⟩
        · exact ⟨_, rfl, (hp p hm).2⟩
      walk_at "qd"
      refine optP_of (a := false) (ninG_strs.trans (by rw [decide_eq_true ht]; rfl)) ?_
      walk_at "qd"
      exact hN _ ⟨_, rfl⟩
    · obtain ⟨x3, rfl⟩ := hI
      exact hN _ ⟨_, _, rfl⟩
  · obtain ⟨x2, x3, rfl⟩ := hI
    walk_at "qd"
    exact hd
theorem sc__closed : FnScope ["names", "pairs", "held", "one", "other", "middle", "above", "below", "name"] ["names", "pairs"] (defScope s__closed) := ⟨rfl, rfl, rfl, by decide +kernel, rfl, by decide +kernel, by decide +kernel⟩
def dt__closed : DF := fun _ ds P _ => ∃ (ns : List Str) (ps : List Pr), ds = [.lst (ns.map D.str), .lst (ps.map pD)] ∧ ns.length ≤ 12 ∧ (∀ p ∈ ps, p.1 ∈ ns ∧ p.2 ∈ ns) ∧ ps.length ≤ 1000 ∧ ∀ hs : List Pr, hs.Nodup → (∀ a b, (a, b) ∈ hs ↔ Way ps a b) → hs.length ≤ 144 → P (.dt (heldK hs))
theorem dc_pairs {ρ : DEnv} {P : List (List L2.Key × D) → Prop} (hρ : ρ.length = 9) : ∀ (ps hs : List Pr), hs.Nodup → hs.length + ps.length ≤ 1000000 →
    (∀ hs' : List Pr, hs'.Nodup → (∀ p, p ∈ hs' ↔ p ∈ hs ∨ p ∈ ps) → P (heldK hs')) → dcGo (dGPair 3 4) (fun _ P => P true) (dCons (dVar 3) (dCons (dVar 4) dNil)) (dC (D.bl true)) [3, 4] ρ (heldK hs) (ps.map pD) P
  | [], hs, nd, _, h => by
    simp only [List.map_nil, dcGo]
    exact h hs nd fun p => by simp
  | p :: ps, hs, nd, hl, h => by
    rw [List.map_cons]
    have hl' : hs.length + (ps.length + 1) ≤ 1000000 := by simpa using hl
    match ρ, hρ with
    | [a0, a1, a2, a3, a4, a5, a6, a7, a8], hρ =>
      refine ⟨by show 2 ≤ sizeLine; decide, ?_⟩
      show optP (some (pK p)) _
      refine ⟨rfl, sl16' (by rw [len_held]; omega), ?_⟩
      rw [putT_put]
      refine dc_pairs hρ ps (putH hs p) (nod_putH nd) ?_ fun hs' n' m' => h hs' n' fun q => ?_
      · have : (putH hs p).length ≤ hs.length + 1 := by unfold putH; split <;> simp
        omega
      · rw [m' q, mem_putH, List.mem_cons, or_assoc]
theorem ok__closed (T : Txt P w K mg) : FnOk P w K mg base CX0 2 T.a__closed T.fd__closed ["names", "pairs"] (spD K 2 (dt__closed)) := by
  refine okD T.F__closed sc__closed rfl fun cdv A outer s H E c hr => ⟨_, _, (pss_cons (ps_set (i := 2) sc__closed.nd rfl (by first | exact Or.inl rfl | exact Or.inr rfl) (pe_dcT (own := [("one", 3), ("other", 4)]) (by rfl) (Nat.lt_of_le_of_lt (Nat.le_add_right _ 64) (hu64 hr)) sc__closed.nd (pi_any (pv 1)) (blkOk_by (own := [("one", 3), ("other", 4)]) (N := ["names", "pairs", "held", "one", "other", "middle", "above", "below", "name"]) (sc := defScope s__closed) (by decide +kernel)) (fun _ _ _ _ _ => (pg_tup rfl (pgs_cons (pg_name (i := 3) sc__closed.nd rfl (by first | exact Or.inl rfl | exact Or.inr rfl)) (pgs_cons (pg_name (i := 4) sc__closed.nd rfl (by first | exact Or.inl rfl | exact Or.inr rfl)) pgs_nil)))) (fun _ _ _ _ _ => pts_nil) (fun _ _ _ _ _ => (pe_tup (pa_cons (pv 3) (pa_cons (pv 4) pa_nil)))) (fun _ _ _ _ _ => pe_bl))) (pss_cons (ps_for PassesOwn.never (by rfl) (pi_any (pv 0)) (pg_name (i := 5) sc__closed.nd rfl (by first | exact Or.inl rfl | exact Or.inr rfl)) (pss_cons (ps_setLc (i := 6) (own := [("name", 8)]) (by rfl) sc__closed.nd rfl rfl (sw_true rfl rfl rfl (by decide +kernel)) (pi_any (pv 0)) (blkOk_by (own := [("name", 8)]) (N := ["names", "pairs", "held", "one", "other", "middle", "above", "below", "name"]) (sc := defScope s__closed) (by decide +kernel)) (fun _ _ _ _ _ => (pg_name (i := 8) sc__closed.nd rfl (by first | exact Or.inl rfl | exact Or.inr rfl))) (fun _ _ _ _ _ => (pts_one (pt_cmpR (q_inT (hu64 hr)) (pe_tup (pa_cons (pv 8) (pa_cons (pv 5) pa_nil))) (pv 2) rfl))) (fun _ _ _ _ _ => (pv 8))) (pss_cons (ps_setLc (i := 7) (own := [("name", 8)]) (by rfl) sc__closed.nd rfl rfl (sw_true rfl rfl rfl (by decide +kernel)) (pi_any (pv 0)) (blkOk_by (own := [("name", 8)]) (N := ["names", "pairs", "held", "one", "other", "middle", "above", "below", "name"]) (sc := defScope s__closed) (by decide +kernel)) (fun _ _ _ _ _ => (pg_name (i := 8) sc__closed.nd rfl (by first | exact Or.inl rfl | exact Or.inr rfl))) (fun _ _ _ _ _ => (pts_one (pt_cmpR (q_inT (hu64 hr)) (pe_tup (pa_cons (pv 5) (pa_cons (pv 8) pa_nil))) (pv 2) rfl))) (fun _ _ _ _ _ => (pv 8))) (pss_one (ps_for PassesOwn.never (by rfl) (pi_any (pv 6)) (pg_name (i := 3) sc__closed.nd rfl (by first | exact Or.inl rfl | exact Or.inr rfl)) (pss_one (ps_for PassesOwn.never (by rfl) (pi_any (pv 7)) (pg_name (i := 4) sc__closed.nd rfl (by first | exact Or.inl rfl | exact Or.inr rfl)) (pss_one (ps_dput (hu1 hr) (pv 2) (pe_tup (pa_cons (pv 3) (pa_cons (pv 4) pa_nil))) pe_bl (by rfl)))))))))) (pss_one (ps_ret (pv 2))))), (sim_seq (sim_asgT (sn_dcT (si_any sim_var) sgn_pair sim_yes (sim_cons sim_var (sim_cons sim_var sim_nil)) sim_bl)) (sim_seq (sim_for (si_any sim_var) sgn_name.g (sim_seq (sim_asg (sim_lc (si_any sim_var) sgn_name (sim_test (sim_op sr_inT (sim_tup (sim_cons sim_var (sim_cons sim_var sim_nil))) sim_var)) sim_var) sgn_name.g) (sim_seq (sim_asg (sim_lc (si_any sim_var) sgn_name (sim_test (sim_op sr_inT (sim_tup (sim_cons sim_var (sim_cons sim_var sim_nil))) sim_var)) sim_var) sgn_name.g) (sim_for (si_any sim_var) sgn_name.g (sim_for (si_any sim_var) sgn_name.g (sim_putT (i := 2) sim_bl (sim_cons sim_var (sim_cons sim_var sim_nil)))))))) (sim_ret sim_var))), fun ds Pd Er hl hd => ?_⟩
  obtain ⟨ns, ps, rfl, hl, hp, hps, hd⟩ := hd
  walk_at "qd"
  refine dc_pairs rfl ps [] List.nodup_nil (by show 0 + _ ≤ _; omega) fun hs0 nd0 m0 => ?_
  have m0' : ∀ p, p ∈ hs0 ↔ p ∈ ps := fun p => by rw [m0 p]; simp
  walk_at "qd"
  refine dFor_inv (fun i ρ => ∃ hs x3 x4 x5 x6 x7, (hs.Nodup ∧ (∀ p, p ∈ ps → p ∈ hs) ∧ (∀ a b, (a, b) ∈ hs → Way ps a b) ∧ ∀ m, m ∈ ns.take i → ∀ a b, (a, m) ∈ hs → (m, b) ∈ hs → (a, b) ∈ hs) ∧ ρ = [some (Ent.val (D.lst (ns.map D.str))), some (Ent.val (D.lst (ps.map pD))), some (Ent.own (D.dt (heldK hs))), x3, x4, x5, x6, x7, none]) ⟨hs0, _, _, _, _, _, ⟨nd0, fun p h => (m0' p).mpr h, fun a b h => .one ((m0' _).mp h), fun m h => by simp at h⟩, rfl⟩ (fun i x ρ hx hI N hN => ?_) (fun ρ hI => ?_)
  · obtain ⟨hs, x3, x4, x5, x6, x7, ⟨nd, hin, hout, hcl⟩, rfl⟩ := hI
    rw [List.getElem?_map] at hx
    obtain ⟨m, hm, rfl⟩ := Option.map_eq_some_iff.mp hx
    walk_at "q0"
    refine seq_asg_cut (fun d => d = .lst ((ns.filter fun n => decide ((n, m) ∈ hs)).map D.str)) (fun P hP => ?_) fun d hd1 => ?_
    · walk_at "qd"
      refine lc_keep ns _ (by simp) (by simp) (by omega) (fun t ht Q hQ => ?_) (hP _ rfl)
      walk_at "qd"
      refine ⟨by decide, ?_⟩
      show asBl (.bl (hasK (heldK hs) (pK (t, m)))) Q
      rw [hasK_held]
      exact hQ
    subst hd1
    refine seq_asg_cut (fun d => d = .lst ((ns.filter fun n => decide ((m, n) ∈ hs)).map D.str)) (fun P hP => ?_) fun d hd1 => ?_
    · walk_at "qd"
      refine lc_keep ns _ (by simp) (by simp) (by omega) (fun t ht Q hQ => ?_) (hP _ rfl)
      walk_at "qd"
      refine ⟨by decide, ?_⟩
      show asBl (.bl (hasK (heldK hs) (pK (m, t)))) Q
      rw [hasK_held]
      exact hQ
    subst hd1
    walk_at "qd"
    have hmn := List.mem_of_getElem? hm
    have inN : ∀ a b, (a, b) ∈ hs → a ∈ ns ∧ b ∈ ns := fun a b h => by
      obtain ⟨⟨x, hx⟩, ⟨y, hy⟩⟩ := (hout a b h).ends
      exact ⟨(hp _ hx).1, (hp _ hy).2⟩
    obtain ⟨A, hA⟩ : ∃ A, A = ns.filter fun n => decide ((n, m) ∈ hs) := ⟨_, rfl⟩
    obtain ⟨B, hB⟩ : ∃ B, B = ns.filter fun n => decide ((m, n) ∈ hs) := ⟨_, rfl⟩
    rw [← hA, ← hB]
    have mA : ∀ a, (a, m) ∈ hs ↔ a ∈ A := fun a => by
      rw [hA, List.mem_filter, decide_eq_true_eq]
      exact ⟨fun h => ⟨(inN _ _ h).1, h⟩, fun h => h.2⟩
    have mB : ∀ a, (m, a) ∈ hs ↔ a ∈ B := fun a => by
      rw [hB, List.mem_filter, decide_eq_true_eq]
      exact ⟨fun h => ⟨(inN _ _ h).2, h⟩, fun h => h.2⟩
    have outL : ∀ hs' : List Pr, hs'.Nodup → (∀ p, p ∈ hs' → p ∈ hs ∨ p.1 ∈ A ∧ p.2 ∈ B) → hs'.length ≤ 144 := fun hs' n' h2 => by
      have := few_pairs (ns := ns) n' fun p hp' => by
        rcases h2 p hp' with h | ⟨h, k⟩
        · exact inN _ _ h
        · exact ⟨(inN _ _ ((mA _).mpr h)).1, (inN _ _ ((mB _).mpr k)).2⟩
      have z : ns.length * ns.length ≤ 12 * 12 := Nat.mul_le_mul hl hl
      omega
    refine dFor_inv (fun i' ρ => ∃ hs' x3 x4, (hs'.Nodup ∧ (∀ p, p ∈ hs → p ∈ hs') ∧ (∀ p, p ∈ hs' → p ∈ hs ∨ p.1 ∈ A ∧ p.2 ∈ B) ∧ ∀ a, a ∈ A.take i' → ∀ b, b ∈ B → (a, b) ∈ hs') ∧ ρ = [some (Ent.val (D.lst (ns.map D.str))), some (Ent.val (D.lst (ps.map pD))), some (Ent.own (D.dt (heldK hs'))), x3, x4, some (Ent.val (D.str m)), some (Ent.val (D.lst (A.map D.str))), some (Ent.val (D.lst (B.map D.str))), none]) ⟨hs, _, _, ⟨nd, fun _ h => h, fun _ h => .inl h, fun a h => by simp at h⟩, rfl⟩ (fun i' x ρ hx hI N' hN' => ?_) (fun ρ hI => ?_)
    · obtain ⟨hs', x3, x4, ⟨n', i1, i2, i3⟩, rfl⟩ := hI
      rw [List.getElem?_map] at hx
      obtain ⟨a, ha, rfl⟩ := Option.map_eq_some_iff.mp hx
      have haA := List.mem_of_getElem? ha
      walk_at "qd"
      refine dFor_inv (fun j ρ => ∃ hs'' x4, (hs''.Nodup ∧ (∀ p, p ∈ hs' → p ∈ hs'') ∧ (∀ p, p ∈ hs'' → p ∈ hs ∨ p.1 ∈ A ∧ p.2 ∈ B) ∧ ∀ b, b ∈ B.take j → (a, b) ∈ hs'') ∧ ρ = [some (Ent.val (D.lst (ns.map D.str))), some (Ent.val (D.lst (ps.map pD))), some (Ent.own (D.dt (heldK hs''))), some (Ent.val (.str a)), x4, some (Ent.val (D.str m)), some (Ent.val (D.lst (A.map D.str))), some (Ent.val (D.lst (B.map D.str))), none]) ⟨hs', _, ⟨n', fun _ h => h, i2, fun a h => by simp at h⟩, rfl⟩ (fun j x ρ hx hI N'' hN'' => ?_) (fun ρ hI => ?_)
      · obtain ⟨hs'', x4, ⟨n2, j1, j2, j3⟩, rfl⟩ := hI
        rw [List.getElem?_map] at hx
        obtain ⟨b, hb, rfl⟩ := Option.map_eq_some_iff.mp hx
        have hbB := List.mem_of_getElem? hb
        have l2 := outL hs'' n2 j2
        walk_at "qd"
        refine ⟨by decide, ?_⟩
        show optP (some (pK (a, b))) _
        refine ⟨sl16' (by rw [len_held]; omega), ?_⟩
        rw [putT_put]
        refine hN'' _ ⟨putH hs'' (a, b), _, ⟨nod_putH n2, fun p h => mem_putH.mpr (.inl (j1 p h)), fun p h => ?_, fun c hc => ?_⟩, rfl⟩
        · rcases mem_putH.mp h with h | rfl
          · exact j2 p h
          · exact .inr ⟨haA, hbB⟩
        · rw [List.take_succ, hb] at hc
          rcases List.mem_append.mp hc with hc | hc
          · exact mem_putH.mpr (.inl (j3 c hc))
          · rw [show c = b by simpa using hc]
            exact mem_putH.mpr (.inr rfl)
      · obtain ⟨hs'', x4, ⟨n2, j1, j2, j3⟩, rfl⟩ := hI
        rw [List.length_map, List.take_length] at j3
        refine hN' _ ⟨hs'', _, _, ⟨n2, fun p h => j1 p (i1 p h), j2, fun c hc b hb => ?_⟩, rfl⟩
        rw [List.take_succ, ha] at hc
        rcases List.mem_append.mp hc with hc | hc
        · exact j1 _ (i3 c hc b hb)
        · rw [show c = a by simpa using hc]
          exact j3 b hb
    · obtain ⟨hs', x3, x4, ⟨n', i1, i2, i3⟩, rfl⟩ := hI
      rw [List.length_map, List.take_length] at i3
      refine hN _ ⟨hs', _, _, _, _, _, ⟨n', fun p h => i1 p (hin p h), fun a b h => ?_, fun k hk => warsh mA mB i1 i2 i3 hcl k ?_⟩, rfl⟩
      · rcases i2 _ h with h | ⟨h, k⟩
        · exact hout a b h
        · exact (hout _ _ ((mA _).mpr h)).trans (hout _ _ ((mB _).mpr k))
      · rw [List.take_succ, hm] at hk
        rcases List.mem_append.mp hk with hk | hk
        · exact .inl hk
        · exact .inr (by simpa using hk)
  · obtain ⟨hs, x3, x4, x5, x6, x7, ⟨nd, hin, hout, hcl⟩, rfl⟩ := hI
    walk_at "qd"
    rw [List.length_map, List.take_length] at hcl
    have inN : ∀ a b, (a, b) ∈ hs → a ∈ ns ∧ b ∈ ns := fun a b h => by
      obtain ⟨⟨x, hx⟩, ⟨y, hy⟩⟩ := (hout a b h).ends
      exact ⟨(hp _ hx).1, (hp _ hy).2⟩
    have tr : trn hs := fun a b c h1 h2 => hcl b (inN _ _ h1).2 a c h1 h2
    refine hd hs nd (fun a b => ⟨hout a b, fun w => w.into hin tr⟩) ?_
    have := few_pairs (ns := ns) nd fun p hp' => inN _ _ hp'
    have z : ns.length * ns.length ≤ 12 * 12 := Nat.mul_le_mul hl hl
    omega
theorem sc_Ties___init__ : FnScope ["self", "names", "pairs", "ordered", "held", "name", "one", "other", "pair"] ["self", "names", "pairs"] (defScope s_Ties___init__) := ⟨rfl, rfl, rfl, by decide +kernel, rfl, by decide +kernel, by decide +kernel⟩
def tiesF (ns : List Str) (C : List Pr) : List (Str × D) := [("names", .tup ((sortS ns).map D.str)), ("_held", .dt (heldK C))]
theorem lkt_names {ns : List Str} {C : List Pr} : List.lookup ("names" : Str) (tiesF ns C) = some (D.tup ((sortS ns).map D.str)) := (rfl)
theorem lkt_held {ns : List Str} {C : List Pr} : List.lookup ("_held" : Str) (tiesF ns C) = some (D.dt (heldK C)) := (rfl)
theorem lkt_n__follows {ns : List Str} {C : List Pr} : List.lookup ("_follows" : Str) (tiesF ns C) = none := (rfl)
theorem lkt_n_needed {ns : List Str} {C : List Pr} : List.lookup ("needed" : Str) (tiesF ns C) = none := (rfl)
theorem lkt_n_pairs {ns : List Str} {C : List Pr} : List.lookup ("pairs" : Str) (tiesF ns C) = none := (rfl)
theorem lkt_n_with_ties {ns : List Str} {C : List Pr} : List.lookup ("with_ties" : Str) (tiesF ns C) = none := (rfl)
theorem lkt_n_above {ns : List Str} {C : List Pr} : List.lookup ("above" : Str) (tiesF ns C) = none := (rfl)
theorem lkt_n_below {ns : List Str} {C : List Pr} : List.lookup ("below" : Str) (tiesF ns C) = none := (rfl)
theorem lkt_n_levels {ns : List Str} {C : List Pr} : List.lookup ("levels" : Str) (tiesF ns C) = none := (rfl)
theorem lkt_n__tightest_of {ns : List Str} {C : List Pr} : List.lookup ("_tightest_of" : Str) (tiesF ns C) = none := (rfl)
theorem lkt_n__check_known {ns : List Str} {C : List Pr} : List.lookup ("_check_known" : Str) (tiesF ns C) = none := (rfl)
theorem lkt_n__check_like {ns : List Str} {C : List Pr} : List.lookup ("_check_like" : Str) (tiesF ns C) = none := (rfl)
theorem lkt_n_is_within {ns : List Str} {C : List Pr} : List.lookup ("is_within" : Str) (tiesF ns C) = none := (rfl)
theorem lkt_n_orders {ns : List Str} {C : List Pr} : List.lookup ("orders" : Str) (tiesF ns C) = none := (rfl)
def dt_Ties___init__ (C : Addr) : DI0 := fun _ ds Pd _ => ∃ (ns : List Str) (ps : List Pr), ds = [.lst (ns.map D.str), .lst (ps.map pD)] ∧ ns.length ≤ 12 ∧ (∀ t ∈ ns, nameS t) ∧ ns.Nodup ∧ (∀ p ∈ ps, p.1 ∈ ns ∧ p.2 ∈ ns) ∧ ps.length ≤ 1000 ∧ (∀ a, ¬ Way ps a a) ∧ ∀ C : List Pr, IsC C ps → C.length ≤ 144 → Pd (tiesF ns C)
local macro_rules | `(tactic| walk_at "qd") => `(tactic| ((refine go_out ?_); (try simp only [nE__follows__held, nB__follows__held, nE__follows_names, nB__follows_names, nE__follows_needed, nB__follows_needed, nE__follows_pairs, nB__follows_pairs, nE__held__follows, nB__held__follows, nE__held_names, nB__held_names, nE__held_needed, nB__held_needed, nE__held_pairs, nB__held_pairs, nE_names__follows, nB_names__follows, nE_names__held, nB_names__held, nE_names_needed, nB_names_needed, nE_names_pairs, nB_names_pairs, nE_needed__follows, nB_needed__follows, nE_needed__held, nB_needed__held, nE_needed_names, nB_needed_names, nE_needed_pairs, nB_needed_pairs, nE_pairs__follows, nB_pairs__follows, nE_pairs__held, nB_pairs__held, nE_pairs_names, nB_pairs_names, nE_pairs_needed, nB_pairs_needed, go_lam, go_xf, go_gotP, go_allGotP, go_seqN, go_lxd, go_lxl, go_lxt, go_lxs, go_inTd, go_frzT, go_lcK, go_nlcK, go_dcK, go_kSort, go_kList, go_methXN, go_nlistD, go_putT, go_entDt, go_ownT, go_asgT, go_dcT, go_sortL, go_sortSet, go_nlc, go_retO, go_retE, go_callXN, go_appN, go_nsplit, go_forRet, go_dirty, go_cmethX, go_cmethNX, go_makeVX, go_addO, isLst_lst, go_neOwnL, go_par3VOO, go_methVX, go_augI, go_cval, go_lal, go_lat, go_las, dw1, dw2, List.isEmpty_nil, List.isEmpty_cons, strip_var, strip1_val, strip1_own, strip1_none, strip_nil, strip_val, strip_own, strip_none, go_raise, go_callX, go_callNX, go_smethX, go_methX, go_makeX, go_makeKX, go_inWT, go_inWL, go_inK2, atP0, atP1, lkt_names, lkt_held, lkt_n__follows, lkt_n_needed, lkt_n_pairs, lkt_n_with_ties, lkt_n_above, lkt_n_below, lkt_n_levels, lkt_n__tightest_of, lkt_n__check_known, lkt_n__check_like, lkt_n_is_within, lkt_n_orders, List.lookup_cons, List.lookup_nil, beq_self_eq_true, go_go, go_fld, go_asIns, go_ownFld, go_objE, go_setFld, go_fmt, go_fmtS, go_fmtI, go_joined, go_jsN, go_jsC, go_inK, go_ixK, go_gtup, go_glst, setAll_nil, setAll_cons, go_make, go_makeK, go_meth, go_prop, go_smeth, go_smethN, isRaw_self, go_isiC, isiC_ins, isiC_str, isiC_non, go_eqOwn, go_neOwn, go_reprOwn, strOrIns_str, strOrIns_ins, putD, go_and, go_var, go_val, go_own, go_c, go_op, go_un, go_nil, go_cons, go_cb, go_tup, go_lst, go_test, go_asBl, go_asInt, go_asStr, go_some, go_dand, go_dor, go_dnot, go_ifE, go_andV, go_orV, go_notV, go_iT, go_iF, go_next, go_seq, go_if, go_ret, go_retN, go_brk, go_cont, go_drop, go_asg, go_gname, go_gpair, go_II, go_IC, go_addI, go_addS, go_addL, go_mulI, go_mulS, go_mulL, go_is, go_isnot, go_inS, go_inL, go_inT, go_ninS, go_eqbl, go_nebl, go_eqint, go_neint, go_isi, go_isi2, go_len, go_lenS, go_lenL, go_lenT, go_int1, go_intb, go_abs, go_max, go_min, go_lol, go_lot, go_tol, go_tot, go_all, go_any, go_ixL, go_ixT, go_ixS, go_noPart, go_part, go_sl, go_slL, go_slS, go_chain, go_lenSet, go_sl2, go_sl2L, go_tabG, go_tupBls, go_lenOwn, go_inOwn, go_eqNon, go_split, go_join, go_walk, go_rng1, go_rng2, go_zip, go_zipL, go_zipT, go_enum, go_enumL, go_lc, go_for, go_call, go_callN, go_asgO, go_nlst, go_nlo, go_append, go_entOwn, go_ownE, go_dxE, go_dxIf, go_asgX, go_popAt, go_pop, go_setIx, go_freeze, frz_own, frz_val, go_parVV, go_parOV, go_parVO, go_parOO, go_neg, dirt, D.flat, tyName, D.isNon, D.sign, D.toV, toVs, D.walked, D.items, strsOf, isD, isD2, inG, dstart, List.map, List.length, List.replicate, List.append, List.cons_append, List.nil_append, List.append_nil, List.getElem?_cons_zero, List.getElem?_cons_succ, List.set_cons_zero, List.set_cons_succ, Option.bind_some, Option.bind_none, if_true, if_false, Bool.false_eq_true, Bool.true_and, Bool.and_true, Bool.false_and, Bool.and_false, Bool.or_false, Bool.false_or, Bool.true_or, Bool.or_true, Bool.not_true, Bool.not_false, reduceIte, decide_true, decide_false, Nat.reduceAdd, Nat.reduceSub, Nat.zero_add, true_and, and_true,  ty_NoneType_str, ty_NoneType_int, ty_NoneType_bool, ty_NoneType_list, ty_NoneType_tuple, ty_bool_str, ty_bool_int, ty_bool_bool, ty_bool_list, ty_bool_tuple, ty_int_str, ty_int_int, ty_int_bool, ty_int_list, ty_int_tuple, ty_str_str, ty_str_int, ty_str_bool, ty_str_list, ty_str_tuple, ty_list_str, ty_list_int, ty_list_bool, ty_list_list, ty_list_tuple, ty_tuple_str, ty_tuple_int, ty_tuple_bool, ty_tuple_list, ty_tuple_tuple]); (try simp only [go_done])))
local macro_rules | `(tactic| walk_at "qs") => `(tactic| ((refine go_out ?_); (try simp only [nE__follows__held, nB__follows__held, nE__follows_names, nB__follows_names, nE__follows_needed, nB__follows_needed, nE__follows_pairs, nB__follows_pairs, nE__held__follows, nB__held__follows, nE__held_names, nB__held_names, nE__held_needed, nB__held_needed, nE__held_pairs, nB__held_pairs, nE_names__follows, nB_names__follows, nE_names__held, nB_names__held, nE_names_needed, nB_names_needed, nE_names_pairs, nB_names_pairs, nE_needed__follows, nB_needed__follows, nE_needed__held, nB_needed__held, nE_needed_names, nB_needed_names, nE_needed_pairs, nB_needed_pairs, nE_pairs__follows, nB_pairs__follows, nE_pairs__held, nB_pairs__held, nE_pairs_names, nB_pairs_names, nE_pairs_needed, nB_pairs_needed, go_lam, go_xf, go_gotP, go_allGotP, go_seqN, go_lxd, go_lxl, go_lxt, go_lxs, go_inTd, go_frzT, go_lcK, go_nlcK, go_dcK, go_kSort, go_kList, go_methXN, go_nlistD, go_putT, go_entDt, go_ownT, go_asgT, go_dcT, go_sortL, go_sortSet, go_nlc, go_retO, go_retE, go_callXN, go_appN, go_nsplit, go_forRet, go_dirty, go_cmethX, go_cmethNX, go_makeVX, go_addO, isLst_lst, go_neOwnL, go_par3VOO, go_methVX, go_augI, go_cval, go_lal, go_lat, go_las, dw1, dw2, List.isEmpty_nil, List.isEmpty_cons, strip_var, strip1_val, strip1_own, strip1_none, strip_nil, strip_val, strip_own, strip_none, go_raise, go_callX, go_callNX, go_smethX, go_methX, go_makeX, go_makeKX, go_inWT, go_inWL, go_inK2, atP0, atP1, lkt_names, lkt_held, lkt_n__follows, lkt_n_needed, lkt_n_pairs, lkt_n_with_ties, lkt_n_above, lkt_n_below, lkt_n_levels, lkt_n__tightest_of, lkt_n__check_known, lkt_n__check_like, lkt_n_is_within, lkt_n_orders, List.lookup_cons, List.lookup_nil, beq_self_eq_true, go_go, go_fld, go_asIns, go_ownFld, go_objE, go_setFld, go_fmt, go_fmtS, go_fmtI, go_joined, go_jsN, go_jsC, go_inK, go_ixK, go_gtup, go_glst, setAll_nil, setAll_cons, go_make, go_makeK, go_meth, go_prop, go_smeth, go_smethN, isRaw_self, go_isiC, isiC_ins, isiC_str, isiC_non, go_eqOwn, go_neOwn, go_reprOwn, strOrIns_str, strOrIns_ins, putD, go_and, go_var, go_val, go_own, go_c, go_op, go_un, go_nil, go_cons, go_cb, go_tup, go_lst, go_test, go_asBl, go_asInt, go_asStr, go_some, go_dand, go_dor, go_dnot, go_ifE, go_andV, go_orV, go_notV, go_iT, go_iF, go_next, go_if, go_ret, go_retN, go_brk, go_cont, go_drop, go_asg, go_gname, go_gpair, go_II, go_IC, go_addI, go_addS, go_addL, go_mulI, go_mulS, go_mulL, go_is, go_isnot, go_inS, go_inL, go_inT, go_ninS, go_eqbl, go_nebl, go_eqint, go_neint, go_isi, go_isi2, go_len, go_lenS, go_lenL, go_lenT, go_int1, go_intb, go_abs, go_max, go_min, go_lol, go_lot, go_tol, go_tot, go_all, go_any, go_ixL, go_ixT, go_ixS, go_noPart, go_part, go_sl, go_slL, go_slS, go_chain, go_lenSet, go_sl2, go_sl2L, go_tabG, go_tupBls, go_lenOwn, go_inOwn, go_eqNon, go_split, go_join, go_walk, go_rng1, go_rng2, go_zip, go_zipL, go_zipT, go_enum, go_enumL, go_lc, go_for, go_call, go_callN, go_asgO, go_nlst, go_nlo, go_append, go_entOwn, go_ownE, go_dxE, go_dxIf, go_asgX, go_popAt, go_pop, go_setIx, go_freeze, frz_own, frz_val, go_parVV, go_parOV, go_parVO, go_parOO, go_neg, dirt, D.flat, tyName, D.isNon, D.sign, D.toV, toVs, D.walked, D.items, strsOf, isD, isD2, inG, dstart, List.map, List.length, List.replicate, List.append, List.cons_append, List.nil_append, List.append_nil, List.getElem?_cons_zero, List.getElem?_cons_succ, List.set_cons_zero, List.set_cons_succ, Option.bind_some, Option.bind_none, if_true, if_false, Bool.false_eq_true, Bool.true_and, Bool.and_true, Bool.false_and, Bool.and_false, Bool.or_false, Bool.false_or, Bool.true_or, Bool.or_true, Bool.not_true, Bool.not_false, reduceIte, decide_true, decide_false, Nat.reduceAdd, Nat.reduceSub, Nat.zero_add, true_and, and_true,  ty_NoneType_str, ty_NoneType_int, ty_NoneType_bool, ty_NoneType_list, ty_NoneType_tuple, ty_bool_str, ty_bool_int, ty_bool_bool, ty_bool_list, ty_bool_tuple, ty_int_str, ty_int_int, ty_int_bool, ty_int_list, ty_int_tuple, ty_str_str, ty_str_int, ty_str_bool, ty_str_list, ty_str_tuple, ty_list_str, ty_list_int, ty_list_bool, ty_list_list, ty_list_tuple, ty_tuple_str, ty_tuple_int, ty_tuple_bool, ty_tuple_list, ty_tuple_tuple]); (try simp only [go_done])))
local macro_rules | `(tactic| walk_at "q0") => `(tactic| ((refine go_out ?_); (simp only [go_gname, go_gpair, List.set_cons_zero, List.set_cons_succ]); (try simp only [go_done])))

theorem ok_Ties___init__ (T : Txt P w K mg) : FnOk P w K mg base CX0 10 T.a_Ties___init__ T.fd_Ties___init__ ["self", "names", "pairs"] (spI K T.C_Ties 2 (dt_Ties___init__ T.C_Ties)) := by
  refine okI T.F_Ties___init__ sc_Ties___init__ rfl (by decide) fun cdv A outer s H H1 E c hr => ⟨_, _, (pss_cons (ps_expr (pe_call ((ok__check_names T).mono (by decide)) hr (by rfl) T.g__check_names T.F__check_names.kp (bn__check_names T) .nil pass0 (pa_cons (pv 1) pa_nil))) (pss_cons (ps_expr (pe_call ((ok__check_pairs T).mono (by decide)) hr (by rfl) T.g__check_pairs T.F__check_pairs.kp (bn__check_pairs T) .nil pass0 (pa_cons (pv 1) (pa_cons (pv 2) pa_nil)))) (pss_cons (ps_set (i := 3) sc_Ties___init__.nd rfl (by first | exact Or.inl rfl | exact Or.inr rfl) (pe_callB (q_sortD8 (hu64 hr)) (by rfl) T.b_sorted (by decide +kernel) (pa_cons (pv 1) pa_nil))) (pss_cons (ps_set (i := 4) sc_Ties___init__.nd rfl (by first | exact Or.inl rfl | exact Or.inr rfl) (pe_call ((ok__closed T).mono (by decide)) hr (by rfl) T.g__closed T.F__closed.kp (bn__closed T) .nil pass0 (pa_cons (pv 3) (pa_cons (pv 2) pa_nil)))) (pss_cons (ps_for PassesOwn.never (by rfl) (pi_any (pv 3)) (pg_name (i := 5) sc_Ties___init__.nd rfl (by first | exact Or.inl rfl | exact Or.inr rfl)) (pss_one (ps_if (pt_cmpR (q_inT (hu64 hr)) (pe_tup (pa_cons (pv 5) (pa_cons (pv 5) pa_nil))) (pv 4) rfl) (pss_one ps_no) pss_nil))) (pss_cons (ps_fld (pv 0) (pe_callTy q_tupOf (by rfl) T.b_tuple (by decide +kernel) (pa_cons (pv 3) pa_nil)) rfl) (pss_one (ps_fld (pv 0) (pe_dcT (own := [("pair", 8)]) (by rfl) (Nat.lt_of_le_of_lt (Nat.le_add_right _ 64) (hu64 hr)) sc_Ties___init__.nd (pi_any (pe_callB (q_sortD8 (hu64 hr)) (by rfl) T.b_sorted (by decide +kernel) (pa_cons (pe_callTy (q_listX (by rfl)) (by rfl) T.b_list (by decide +kernel) (pa_cons (pv 4) pa_nil)) pa_nil))) (blkOk_by (own := [("pair", 8)]) (N := ["self", "names", "pairs", "ordered", "held", "name", "one", "other", "pair"]) (sc := defScope s_Ties___init__) (by decide +kernel)) (fun _ _ _ _ _ => (pg_name (i := 8) sc_Ties___init__.nd rfl (by first | exact Or.inl rfl | exact Or.inr rfl))) (fun _ _ _ _ _ => pts_nil) (fun _ _ _ _ _ => (pv 8)) (fun _ _ _ _ _ => pe_bl)) rfl)))))))), (sim_seq (sim_drop (sim_call (sim_cons sim_var sim_nil))) (sim_seq (sim_drop (sim_call (sim_cons sim_var (sim_cons sim_var sim_nil)))) (sim_seq (sim_asg (sim_cb sc_sortD (sim_cons sim_var sim_nil)) sgn_name.g) (sim_seq (sim_asg (sim_call (sim_cons sim_var (sim_cons sim_var sim_nil))) sgn_name.g) (sim_seq (sim_for (si_any sim_var) sgn_name.g (sim_ifS (sim_test (sim_op sr_inT (sim_tup (sim_cons sim_var (sim_cons sim_var sim_nil))) sim_var)) sim_noS sim_next)) (sim_seq (sim_setFld T.cl_Ties T.na_Ties_names (sim_cb sc_tupOf (sim_cons sim_var sim_nil))) (sim_setFld T.cl_Ties T.na_Ties__held (sim_dcK (sk_sort (sk_list sim_var)))))))))), fun ds Pd Er hl hd => ?_⟩
  obtain ⟨ns, ps, rfl, hl, hw, hn, hp, hps, hr, hd⟩ := hd
  walk_at "qd"
  refine ⟨ns, rfl, hl, hw, hn, ?_⟩
  walk_at "qd"
  refine ⟨ns, ps, rfl, hp, ?_⟩
  walk_at "qd"
  have hz : (sortS ns).length ≤ 12 := by rw [(sortS_perm ns).length_eq]; exact hl
  have ms : ∀ t, t ∈ sortS ns ↔ t ∈ ns := fun t => (sortS_perm ns).mem_iff
  refine ⟨sl16 (by rw [List.length_map]; omega), sortOk_strs ns, ?_⟩
  rw [sortD_strs]
  walk_at "qd"
  refine ⟨sortS ns, ps, rfl, hz, fun p h => ⟨(ms _).mpr (hp p h).1, (ms _).mpr (hp p h).2⟩, hps, fun hs nd hi hh => ?_⟩
  walk_at "qd"
  refine dFor_inv (fun i ρ => ∃ x5, ρ = [some (Ent.own (D.ins T.C_Ties [])), some (Ent.val (D.lst (ns.map D.str))), some (Ent.val (D.lst (ps.map pD))), some (Ent.val (D.lst ((sortS ns).map D.str))), some (Ent.val (D.dt (heldK hs))), x5, none, none, none]) ⟨_, rfl⟩ (fun i x ρ hx hI N hN => ?_) (fun ρ hI => ?_)
  · obtain ⟨x5, rfl⟩ := hI
    rw [List.getElem?_map] at hx
    obtain ⟨t, ht, rfl⟩ := Option.map_eq_some_iff.mp hx
    walk_at "qd"
    refine ⟨by decide, ?_⟩
    refine optP_of (a := pK (t, t)) rfl ?_
    rw [hasK_held, decide_eq_false fun h => hr t ((hi t t).mp h)]
    walk_at "qd"
    exact hN _ ⟨_, rfl⟩
  · obtain ⟨x5, rfl⟩ := hI
    walk_at "qd"
    have lp : (sortP hs).length ≤ 144 := by rw [(sortP_perm hs).length_eq]; exact hh
    refine ⟨by decide, by show 8 < 9; decide, hs, rfl, sl16 (by omega), (sortP_perm hs).nodup_iff.mpr nd, sl16 (by omega), ?_⟩
    walk_at "qd"
    refine ⟨by decide, ?_⟩
    exact hd _ (IsC.of nd hi) lp
theorem sc_Ties__follows : FnScope ["self", "one", "other", "name"] ["self", "one", "other"] (defScope s_Ties__follows) := ⟨rfl, rfl, rfl, by decide +kernel, rfl, by decide +kernel, by decide +kernel⟩
def folB (ns : List Str) (C : List Pr) (p : Pr) : Bool := (sortS ns).any fun n => decide ((p.1, n) ∈ C) && decide ((n, p.2) ∈ C)
theorem asBls_bl {α : Type} {f : α → Bool} : ∀ xs : List α, asBls (xs.map fun x => D.bl (f x)) = some (xs.map f)
  | [] => rfl
  | x :: xs => by
    rw [List.map_cons, List.map_cons]
    simp only [asBls, asBls_bl xs]
    rfl
def dt_Ties__follows (C : Addr) : DF := fun _ ds P _ => ∃ (ns : List Str) (hs : List Pr) (p : Pr), ds = [.ins C (tiesF ns hs), .str p.1, .str p.2] ∧ ns.length ≤ 12 ∧ P (.bl (folB ns hs p))
theorem ok_Ties__follows (T : Txt P w K mg) : FnOk P w K mg base CX0 2 T.a_Ties__follows T.fd_Ties__follows ["self", "one", "other"] (spD K 3 (dt_Ties__follows T.C_Ties)) := by
  refine okD T.F_Ties__follows sc_Ties__follows rfl fun cdv A outer s H E c hr => ⟨_, _, (pss_one (ps_ret (pe_callB (cr_any (by rfl)) (by rfl) T.b_any (by decide +kernel) (pa_cons (pe_lc (own := [("name", 3)]) (by rfl) sc_Ties__follows.nd (pi_any (pe_fld (pv 0) rfl)) (blkOk_by (own := [("name", 3)]) (N := ["self", "one", "other", "name"]) (sc := defScope s_Ties__follows) (by decide +kernel)) (fun _ _ _ _ _ => (pg_name (i := 3) sc_Ties__follows.nd rfl (by first | exact Or.inl rfl | exact Or.inr rfl))) (fun _ _ _ _ _ => pts_nil) (fun _ _ _ _ _ => (pe_and (pe_cmpR (q_inT (hu64 hr)) (pe_tup (pa_cons (pv 1) (pa_cons (pv 3) pa_nil))) (pe_fld (pv 0) rfl) rfl) (pe_one (pe_cmpR (q_inT (hu64 hr)) (pe_tup (pa_cons (pv 3) (pa_cons (pv 2) pa_nil))) (pe_fld (pv 0) rfl) rfl))))) pa_nil)))), (sim_ret (sim_cb sc_any (sim_cons (sim_lc (si_any (sim_fld T.cl_Ties T.na_Ties_names sim_var)) sgn_name sim_yes (sim_andV (sim_op sr_inT (sim_tup (sim_cons sim_var (sim_cons sim_var sim_nil))) (sim_fld T.cl_Ties T.na_Ties__held sim_var)) (sim_op sr_inT (sim_tup (sim_cons sim_var (sim_cons sim_var sim_nil))) (sim_fld T.cl_Ties T.na_Ties__held sim_var)))) sim_nil))), fun ds Pd Er hl hd => ?_⟩
  obtain ⟨ns, hs, p, rfl, hl, hd⟩ := hd
  have hz : (sortS ns).length ≤ 12 := by rw [(sortS_perm ns).length_eq]; exact hl
  walk_at "qd"
  refine lcGo_name (fun d => match d with | .str n => .bl (decide ((p.1, n) ∈ hs) && decide ((n, p.2) ∈ hs)) | _ => .non) _ _ (fun d hd1 Q hQ => ?_) (by rw [List.length_map]; exact sl16 (by show 0 + _ ≤ _; omega)) ?_
  · obtain ⟨n, hn, rfl⟩ := List.mem_map.mp hd1
    walk_at "qd"
    refine ⟨by decide, ?_⟩
    refine optP_of (a := pK (p.1, n)) rfl ?_
    rw [hasK_held]
    walk_at "qd"
    have hQ' : Q (.bl (decide ((p.1, n) ∈ hs) && decide ((n, p.2) ∈ hs))) false := hQ
    cases h : decide ((p.1, n) ∈ hs) with
    | false =>
      rw [h] at hQ'
      exact hQ'
    | true =>
      rw [h] at hQ'
      walk_at "qd"
      refine ⟨by decide, ?_⟩
      refine optP_of (a := pK (n, p.2)) rfl ?_
      rw [hasK_held]
      exact hQ'
  rw [List.nil_append, List.map_map]
  walk_at "qd"
  refine optP_of (asBls_bl (f := fun n => decide ((p.1, n) ∈ hs) && decide ((n, p.2) ∈ hs)) (sortS ns)) ?_
  rw [List.any_map]
  exact hd
theorem sc_Ties_needed : FnScope ["self", "one", "other"] ["self"] (defScope s_Ties_needed) := ⟨rfl, rfl, rfl, by decide +kernel, rfl, by decide +kernel, by decide +kernel⟩
def needP (ns : List Str) (C : List Pr) : List Pr := C.filter fun p => !folB ns C p
theorem lc_pairsK {i j : Nat} {dt : DT} {vs : List Nat} {ρ : DEnv} {P : List D → Prop} (p : Pr → Bool) (hij : i ≠ j) (hi : i < ρ.length) (hj : j < ρ.length) : ∀ (ps acc : List Pr), acc.length + ps.length ≤ 1000000 → (∀ x, x ∈ ps → ∀ Q : Bool → Prop, Q (p x) → dt (((dwipe ρ vs).set i (some (Ent.val (.str x.1)))).set j (some (Ent.val (.str x.2)))) Q) → P ((acc ++ ps.filter p).map pD) →
    lcGo (dGPair i j) dt (dTup (dCons (dVar i) (dCons (dVar j) dNil))) vs ρ (acc.map pD) (ps.map pD) P
  | [], acc, _, _, h => by
    simp only [List.map_nil, lcGo]
    simpa using h
  | x :: ps, acc, hl, ht, h => by
    have hl' : acc.length + (ps.length + 1) ≤ 1000000 := by simpa using hl
    rw [List.map_cons]
    refine ht x List.mem_cons_self _ ?_
    cases hx : p x with
    | false =>
      rw [List.filter_cons, hx] at h
      exact lc_pairsK p hij hi hj ps acc (by omega) (fun y hy => ht y (List.mem_cons_of_mem _ hy)) (by simpa using h)
    | true =>
      rw [if_pos rfl]
      show getE _ _
      rw [List.getElem?_set_ne hij.symm, List.getElem?_set_self (by rw [dwipe_len]; exact hi)]
      refine (show getE (((List.set (List.set (dwipe ρ vs) i (some (Ent.val (D.str x.1)))) j (some (Ent.val (D.str x.2))))[j]?)) _ from ?_)
      rw [List.getElem?_set_self (by rw [List.length_set, dwipe_len]; exact hj)]
      refine ⟨by show 2 ≤ sizeLine; decide, rfl, sl16' (by rw [List.length_map]; omega), ?_⟩
      have := lc_pairsK (P := P) (dt := dt) (vs := vs) (ρ := ρ) p hij hi hj ps (acc ++ [x]) (by simp; omega) (fun y hy => ht y (List.mem_cons_of_mem _ hy)) (by
        rw [List.filter_cons, hx, if_pos rfl] at h
        simpa using h)
      rw [List.map_append] at this
      exact this
def dt_Ties_needed (T : Txt P w K mg) : DF := fun _ ds P _ => ∃ (ns : List Str) (hs : List Pr), ds = [.ins T.C_Ties (tiesF ns hs)] ∧ ns.length ≤ 12 ∧ hs.length ≤ 144 ∧ P (.lst ((needP ns hs).map pD))
theorem okN_Ties_needed (T : Txt P w K mg) : FnOk P w K mg base (CXR P w) 4 T.a_Ties_needed T.fd_Ties_needed ["self"] (spN K 1 (dt_Ties_needed T)) := by
  refine okNX T.F_Ties_needed sc_Ties_needed rfl fun cdv A outer s H E c hr => ⟨_, _, (pss_one (ps_ret (pe_lcK (pe_lc (own := [("one", 1), ("other", 2)]) (by rfl) sc_Ties_needed.nd (pi_keys (pe_fld (pv 0) rfl)) (blkOk_by (own := [("one", 1), ("other", 2)]) (N := ["self", "one", "other"]) (sc := defScope s_Ties_needed) (by decide +kernel)) (fun _ _ _ _ _ => (pg_tup rfl (pgs_cons (pg_name (i := 1) sc_Ties_needed.nd rfl (by first | exact Or.inl rfl | exact Or.inr rfl)) (pgs_cons (pg_name (i := 2) sc_Ties_needed.nd rfl (by first | exact Or.inl rfl | exact Or.inr rfl)) pgs_nil)))) (fun _ _ _ _ _ => (pts_one (pt_not (pt_val (pe_meth (pv 0) T.cl_Ties T.me_Ties__follows ((ok_Ties__follows T).mono (by decide)) hr (bn_Ties__follows T) .nil pass0 (pa_cons (pv 1) (pa_cons (pv 2) pa_nil))))))) (fun _ _ _ _ _ => (pe_tup (pa_cons (pv 1) (pa_cons (pv 2) pa_nil)))))))), fun Er hE => (sn_retE (sn_lcK rfl T.cl_Ties T.na_Ties__held (fun _ _ hb => sgn_pair) (fun _ _ hb => (sim_not (sim_B (sim_methB (dvs := []) (dd := []) hb (fun _ => rfl) sim_var (sim_cons sim_var (sim_cons sim_var sim_nil)))))) (fun _ _ hb => (sim_tup (sim_cons sim_var (sim_cons sim_var sim_nil)))))), fun ds Pd Er hl hd => ?_⟩
  obtain ⟨ns, hs, rfl, hl, hh, hd⟩ := hd
  walk_at "qd"
  rw [keysD_held]
  refine lc_pairsK (fun p => !folB ns hs p) (by decide) (by show 1 < 3; decide) (by show 2 < 3; decide) hs [] (by show 0 + _ ≤ _; omega) (fun x hx Q hQ => ?_) ?_
  · walk_at "qd"
    refine ⟨ns, hs, x, rfl, hl, ?_⟩
    walk_at "qd"
    exact hQ
  · rw [List.nil_append]
    exact hd
theorem ok_Ties_needed (T : Txt P w K mg) : FnOk P w K mg base (CXR P w) 4 T.a_Ties_needed T.fd_Ties_needed ["self"] (spD K 1 (dt_Ties_needed T)) := FnOk.newD (okN_Ties_needed T)
theorem sc__law_same : FnScope ["_law_found", "_law_due", "_law_a", "_law_b"] ["_law_found", "_law_due"] (defScope s__law_same) := ⟨rfl, rfl, rfl, by decide +kernel, rfl, by decide +kernel, by decide +kernel⟩
/-- two equal data are the same; n: how deep they may be -/
def dtSame (n : Nat) : DF := fun _ ds P _ => ∃ d, ds = [d, d] ∧ pl d = true ∧ dep d < n ∧ P (.bl true)
theorem all_true (n : Nat) : (List.replicate n true).all id = true := by
  induction n with
  | zero => rfl
  | succ n ih => rw [List.replicate_succ, List.all_cons, ih]; rfl
theorem zipWith_const {α β γ : Type} (c : γ) : ∀ (xs : List α) (ys : List β), xs.length = ys.length → List.zipWith (fun _ _ => c) xs ys = List.replicate xs.length c
  | [], [], _ => rfl
  | x :: xs, y :: ys, h => by
    rw [List.zipWith_cons_cons, List.length_cons, List.replicate_succ, zipWith_const c xs ys (by simpa using h)]
theorem mem_zip_self {α : Type} {a b : α} : ∀ {xs : List α}, (a, b) ∈ xs.zip xs → a = b ∧ a ∈ xs
  | x :: xs, h => by
    rw [List.zip_cons_cons] at h
    rcases List.mem_cons.mp h with e | h
    · cases e
      exact ⟨rfl, List.mem_cons_self⟩
    · obtain ⟨z1, z2⟩ := mem_zip_self h
      exact ⟨z1, List.mem_cons_of_mem _ z2⟩
theorem ok_same_step {n : Nat} (T : Txt P w K mg) (GREC : FnOk P w K mg base CX0 n T.a__law_same T.fd__law_same ["_law_found", "_law_due"] (spD K 2 (dtSame n))) : FnOk P w K mg base CX0 (n + 1) T.a__law_same T.fd__law_same ["_law_found", "_law_due"] (spD K 2 (dtSame (n + 1))) := by
  refine okD T.F__law_same sc__law_same rfl fun cdv A outer s H E c hr => ⟨_, _, (pss_cons (ps_if (pt_val (pe_callB call_isiT (by rfl) T.b_isinstance PyProof.Rows.boot_isinstance (pa_cons (pv 1) (pa_cons (pe_tup (pa_cons (pe_bltn (v := .ty "list") (by rfl) T.b_list PyProof.Rows.boot_list rfl) (pa_cons (pe_bltn (v := .ty "tuple") (by rfl) T.b_tuple PyProof.Rows.boot_tuple rfl) pa_nil))) pa_nil)))) (pss_cons (ps_if (PW.pt (pw_or (pt_cmpR (q_ne (hu64 hr)) (pe_callB call_isi (by rfl) T.b_isinstance (by decide +kernel) (pa_cons (pv 0) (pa_cons (pe_bltn (v := .ty "list") (by rfl) T.b_list PyProof.Rows.boot_list rfl) pa_nil))) (pe_callB call_isi (by rfl) T.b_isinstance (by decide +kernel) (pa_cons (pv 1) (pa_cons (pe_bltn (v := .ty "list") (by rfl) T.b_list PyProof.Rows.boot_list rfl) pa_nil))) (nomark _)) (pw_or1 (pt_cmpR (q_ne (hu64 hr)) (pe_callB call_isi (by rfl) T.b_isinstance (by decide +kernel) (pa_cons (pv 0) (pa_cons (pe_bltn (v := .ty "tuple") (by rfl) T.b_tuple PyProof.Rows.boot_tuple rfl) pa_nil))) (pe_callB call_isi (by rfl) T.b_isinstance (by decide +kernel) (pa_cons (pv 1) (pa_cons (pe_bltn (v := .ty "tuple") (by rfl) T.b_tuple PyProof.Rows.boot_tuple rfl) pa_nil))) (nomark _))))) (pss_one (ps_ret pe_bl)) pss_nil) (pss_one (ps_ret (pe_and (pe_cmpR (q_eq (hu64 hr)) (pe_callB q_len (by rfl) T.b_len (by decide +kernel) (pa_cons (pv 0) pa_nil)) (pe_callB q_len (by rfl) T.b_len (by decide +kernel) (pa_cons (pv 1) pa_nil)) (nomark _)) (pe_one (pe_callB (cr_all (by rfl)) (by rfl) T.b_all (by decide +kernel) (pa_cons (pe_lc (own := [("_law_a", 2), ("_law_b", 3)]) (by rfl) sc__law_same.nd (RZ.pi_zipA (by rfl) T.b_zip (pa_cons (pv 0) (pa_cons (pv 1) pa_nil))) (blkOk_by (own := [("_law_a", 2), ("_law_b", 3)]) (N := ["_law_found", "_law_due", "_law_a", "_law_b"]) (sc := defScope s__law_same) (by decide +kernel)) (fun _ _ _ _ _ => (pg_tup rfl (pgs_cons (pg_name (i := 2) sc__law_same.nd rfl (by first | exact Or.inl rfl | exact Or.inr rfl)) (pgs_cons (pg_name (i := 3) sc__law_same.nd rfl (by first | exact Or.inl rfl | exact Or.inr rfl)) pgs_nil)))) (fun _ _ _ _ _ => pts_nil) (fun _ _ _ _ _ => (pe_call GREC hr (by rfl) T.g__law_same T.F__law_same.kp (bn__law_same T) .nil pass0 (pa_cons (pv 2) (pa_cons (pv 3) pa_nil))))) pa_nil))))))) pss_nil) (pss_cons (ps_if (PW.pt (pw_or (pt_cmpR q_is (pv 1) pe_non (nomark _)) (pw_or1 (pt_cmpR q_is (pv 0) pe_non (nomark _))))) (pss_one (ps_ret (pe_and (pe_cmpR q_is (pv 1) pe_non (nomark _)) (pe_one (pe_cmpR q_is (pv 0) pe_non (nomark _)))))) pss_nil) (pss_cons (ps_if (PW.pt (pw_or (pt_cmpR (q_ne (hu64 hr)) (pe_callB call_isi (by rfl) T.b_isinstance (by decide +kernel) (pa_cons (pv 1) (pa_cons (pe_bltn (v := .ty "bool") (by rfl) T.b_bool PyProof.Rows.boot_bool rfl) pa_nil))) (pe_callB call_isi (by rfl) T.b_isinstance (by decide +kernel) (pa_cons (pv 0) (pa_cons (pe_bltn (v := .ty "bool") (by rfl) T.b_bool PyProof.Rows.boot_bool rfl) pa_nil))) (nomark _)) (pw_or1 (pt_cmpR (q_ne (hu64 hr)) (pe_callB call_isi (by rfl) T.b_isinstance (by decide +kernel) (pa_cons (pv 1) (pa_cons (pe_bltn (v := .ty "int") (by rfl) T.b_int PyProof.Rows.boot_int rfl) pa_nil))) (pe_callB call_isi (by rfl) T.b_isinstance (by decide +kernel) (pa_cons (pv 0) (pa_cons (pe_bltn (v := .ty "int") (by rfl) T.b_int PyProof.Rows.boot_int rfl) pa_nil))) (nomark _))))) (pss_one (ps_ret pe_bl)) pss_nil) (pss_one (ps_ret (pe_and (pe_cmpR (q_eq (hu64 hr)) (pe_callB call_isi (by rfl) T.b_isinstance (by decide +kernel) (pa_cons (pv 1) (pa_cons (pe_bltn (v := .ty "str") (by rfl) T.b_str PyProof.Rows.boot_str rfl) pa_nil))) (pe_callB call_isi (by rfl) T.b_isinstance (by decide +kernel) (pa_cons (pv 0) (pa_cons (pe_bltn (v := .ty "str") (by rfl) T.b_str PyProof.Rows.boot_str rfl) pa_nil))) (nomark _)) (pe_one (pe_cmpR (q_eq (hu64 hr)) (pv 0) (pv 1) (nomark _))))))))), (sim_seq (sim_ifS (sim_B (sim_isi2 sim_var)) (sim_seq (sim_ifS (sim_or (sim_test (sim_op sr_ne (sim_cb sc_isi (sim_cons sim_var (sim_cons sim_ty sim_nil))) (sim_cb sc_isi (sim_cons sim_var (sim_cons sim_ty sim_nil))))) (sim_test (sim_op sr_ne (sim_cb sc_isi (sim_cons sim_var (sim_cons sim_ty sim_nil))) (sim_cb sc_isi (sim_cons sim_var (sim_cons sim_ty sim_nil)))))) (sim_ret sim_bl) sim_next) (sim_ret (sim_andV (sim_op sr_eq (sim_cb sc_len (sim_cons sim_var sim_nil)) (sim_cb sc_len (sim_cons sim_var sim_nil))) (sim_cb sc_all (sim_cons (sim_lc (si_zip sim_var sim_var) sgn_pair sim_yes (sim_call (sim_cons sim_var (sim_cons sim_var sim_nil)))) sim_nil))))) sim_next) (sim_seq (sim_ifS (sim_or (sim_test (sim_op sr_is sim_var sim_non)) (sim_test (sim_op sr_is sim_var sim_non))) (sim_ret (sim_andV (sim_op sr_is sim_var sim_non) (sim_op sr_is sim_var sim_non))) sim_next) (sim_seq (sim_ifS (sim_or (sim_test (sim_op sr_ne (sim_cb sc_isi (sim_cons sim_var (sim_cons sim_ty sim_nil))) (sim_cb sc_isi (sim_cons sim_var (sim_cons sim_ty sim_nil))))) (sim_test (sim_op sr_ne (sim_cb sc_isi (sim_cons sim_var (sim_cons sim_ty sim_nil))) (sim_cb sc_isi (sim_cons sim_var (sim_cons sim_ty sim_nil)))))) (sim_ret sim_bl) sim_next) (sim_ret (sim_andV (sim_op sr_eq (sim_cb sc_isi (sim_cons sim_var (sim_cons sim_ty sim_nil))) (sim_cb sc_isi (sim_cons sim_var (sim_cons sim_ty sim_nil)))) (sim_op sr_eq sim_var sim_var)))))), fun ds Pd Er hl hd => ?_⟩
  obtain ⟨d, rfl, hp, hn, hd⟩ := hd
  have turn : ∀ (xs : List D), decide (xs.length ≤ 1000000) = true → pls xs = true → deps xs < n → ∀ ρ : DEnv, ρ.length = 4 → lcGo (dGPair 2 3) (fun _ P => P true) (dCall c.bag 2 (dtSame n) [] (dCons (dVar 2) (dCons (dVar 3) dNil))) [2, 3] ρ [] (zipD xs xs) fun acc => dAll [.lst acc] Pd := fun xs hl hp hn ρ hr => by
    refine lcGo_pair (fun _ _ => .bl true) xs xs [] (fun x y hxy Q q => ?_) ?_ ?_
    · obtain ⟨rfl, hm⟩ := mem_zip_self hxy
      have h1 := pls_mem hp x hm
      have h2 := deps_mem hm
      match ρ, hr with
      | [_, _, _, _], _ => exact ⟨rfl, x, rfl, h1, by omega, q⟩
    · have := of_decide_eq_true hl
      show 0 + xs.length ≤ sizeLine
      have : sizeLine = 16777216 := sizeLine_eq
      omega
    · rw [zipWith_const _ _ _ rfl, List.nil_append]
      have e : (List.replicate xs.length (D.bl true)) = (List.replicate xs.length true).map D.bl := by rw [List.map_replicate]
      rw [e]
      show optP (asBls _) _
      rw [asBls_map]
      show Pd (.bl _)
      rw [all_true]
      exact hd
  cases d with
  | lst xs =>
    walk_at "qd"
    simp only [pl, Bool.and_eq_true] at hp
    simp only [dep] at hn
    exact turn xs hp.1 hp.2 (by omega) _ rfl
  | tup xs =>
    walk_at "qd"
    simp only [pl, Bool.and_eq_true] at hp
    simp only [dep] at hn
    exact turn xs hp.1 hp.2 (by omega) _ rfl
  | ins _ _ => simp [pl] at hp
  | raw _ => simp [pl] at hp
  | lam _ => simp [pl] at hp
  | dk _ => simp [pl] at hp
  | dt _ => simp [pl] at hp
  | non =>
    walk_at "qd"
    exact hd
  | str x =>
    walk_at "qd"
    exact dEq_self hp (Nat.zero_le _) hd
  | bl _ =>
    walk_at "qd"
    exact hd
  | int _ =>
    walk_at "qd"
    exact hd
theorem ok_same_0 (T : Txt P w K mg) : FnOk P w K mg base CX0 0 T.a__law_same T.fd__law_same ["_law_found", "_law_due"] (spD K 2 (dtSame 0)) := by
  have no : ∀ vs H Q E, ¬ spD K 2 (dtSame 0) vs H Q E := fun vs H Q E h => by
    obtain ⟨_, _, _, _, _, _, _, ⟨d, _, _, hd, _⟩, _⟩ := h
    omega
  exact ⟨fun vs H Q E h => absurd h (no vs H Q E), fun A outer s H args us vs Q E _ _ _ _ h => absurd h (no vs H Q E)⟩
theorem ok_same_n (T : Txt P w K mg) : ∀ n : Nat, FnOk P w K mg base CX0 n T.a__law_same T.fd__law_same ["_law_found", "_law_due"] (spD K 2 (dtSame n))
  | 0 => ok_same_0 T
  | n + 1 => ok_same_step T (ok_same_n T n)
abbrev dt__law_same : DF := dtSame 20
theorem ok__law_same (T : Txt P w K mg) : FnOk P w K mg base CX0 21 T.a__law_same T.fd__law_same ["_law_found", "_law_due"] (spD K 2 dt__law_same) := (ok_same_n T 20).mono (by decide)
theorem sc_Ties_pairs : FnScope ["self"] ["self"] (defScope s_Ties_pairs) := ⟨rfl, rfl, rfl, by decide +kernel, rfl, by decide +kernel, by decide +kernel⟩
def dt_Ties_pairs (C : Addr) : DF := fun _ ds P _ => ∃ (ns : List Str) (hs : List Pr), ds = [.ins C (tiesF ns hs)] ∧ P (.lst (hs.map pD))
theorem ok_Ties_pairs (T : Txt P w K mg) : FnOk P w K mg base CX0 2 T.a_Ties_pairs T.fd_Ties_pairs ["self"] (spD K 1 (dt_Ties_pairs T.C_Ties)) := by
  refine okD T.F_Ties_pairs sc_Ties_pairs rfl fun cdv A outer s H E c hr => ⟨_, _, (pss_one (ps_ret (pe_callTy (q_listX (by rfl)) (by rfl) T.b_list (by decide +kernel) (pa_cons (pe_fld (pv 0) rfl) pa_nil)))), (sim_ret (sim_cb sc_listX (sim_cons (sim_fld T.cl_Ties T.na_Ties__held sim_var) sim_nil))), fun ds Pd Er hl hd => ?_⟩
  obtain ⟨ns, hs, rfl, hd⟩ := hd
  walk_at "qd"
  rw [keysD_held]
  exact hd
theorem sc_law : FnScope ["_law_script", "_law_bag_here", "_law_turn", "_law_titles_here", "_law_duos_here", "_law_found", "_law_duo", "_law_due", "_law_made", "_law_rest", "_law_late"] ["_law_script"] (defScope s_law) := ⟨rfl, rfl, rfl, by decide +kernel, rfl, by decide +kernel, by decide +kernel⟩
theorem ahead_trans {o : List Str} (n : o.Nodup) {a b c : Str} (h1 : ahead o (a, b)) (h2 : ahead o (b, c)) : ahead o (a, c) := by
  obtain ⟨i, j, hij, e1, e2⟩ := h1
  obtain ⟨k, l, hkl, e3, e4⟩ := h2
  have : j = k := by
    have h1 := (List.getElem?_eq_some_iff.mp e2)
    have h2 := (List.getElem?_eq_some_iff.mp e3)
    obtain ⟨l1, q1⟩ := h1
    obtain ⟨l2, q2⟩ := h2
    exact (List.getElem_inj n).mp (q1.trans q2.symm)
  subst this
  exact ⟨i, l, by omega, e1, e4⟩
theorem way_ahead {o : List Str} (n : o.Nodup) {ps : List Pr} (h : ∀ p ∈ ps, ahead o p) {a b : Str} (w : Way ps a b) : ahead o (a, b) := by
  induction w with
  | one e => exact h _ e
  | more e _ ih => exact ahead_trans n (h _ e) ih
theorem not_ahead {o : List Str} (n : o.Nodup) {a : Str} : ¬ ahead o (a, a) := fun ⟨i, j, hij, e1, e2⟩ => by
  obtain ⟨l1, q1⟩ := (List.getElem?_eq_some_iff.mp e1)
  obtain ⟨l2, q2⟩ := (List.getElem?_eq_some_iff.mp e2)
  have := (List.getElem_inj n).mp (q1.trans q2.symm)
  omega
theorem mem_need {ns : List Str} {C : List Pr} (hC : ∀ p ∈ C, p.1 ∈ ns ∧ p.2 ∈ ns) {p : Pr} : p ∈ needP ns C ↔ p ∈ C ∧ ¬ ∃ n, (p.1, n) ∈ C ∧ (n, p.2) ∈ C := by
  unfold needP folB
  rw [List.mem_filter]
  refine and_congr_right fun _ => ?_
  rw [Bool.not_eq_true', ← Bool.not_eq_true, List.any_eq_true]
  refine not_congr ⟨fun ⟨n, _, h⟩ => ?_, fun ⟨n, h1, h2⟩ => ⟨n, (sortS_perm ns).mem_iff.mpr (hC _ h1).2, ?_⟩⟩
  · rw [Bool.and_eq_true, decide_eq_true_eq, decide_eq_true_eq] at h
    exact ⟨n, h⟩
  · rw [Bool.and_eq_true, decide_eq_true_eq, decide_eq_true_eq]
    exact ⟨h1, h2⟩
theorem need_gen {o ns : List Str} (n : o.Nodup) {C : List Pr} (hC : ∀ p ∈ C, p.1 ∈ ns ∧ p.2 ∈ ns) (ha : ∀ p ∈ C, ahead o p) : ∀ (d i j : Nat) (a b : Str), o[i]? = some a → o[j]? = some b → j - i ≤ d → (a, b) ∈ C → Way (needP ns C) a b
  | 0, i, j, a, b, e1, e2, hd, hm => by
    obtain ⟨k, l, hkl, e3, e4⟩ := ha _ hm
    obtain ⟨l1, q1⟩ := (List.getElem?_eq_some_iff.mp e1)
    obtain ⟨l2, q2⟩ := (List.getElem?_eq_some_iff.mp e2)
    obtain ⟨l3, q3⟩ := (List.getElem?_eq_some_iff.mp e3)
    obtain ⟨l4, q4⟩ := (List.getElem?_eq_some_iff.mp e4)
    have := (List.getElem_inj n).mp (q1.trans q3.symm)
    have := (List.getElem_inj n).mp (q2.trans q4.symm)
    omega
  | d + 1, i, j, a, b, e1, e2, hd, hm => by
    by_cases h : (a, b) ∈ needP ns C
    · exact .one h
    · rw [mem_need hC] at h
      obtain ⟨m, h1, h2⟩ := Classical.byContradiction fun z => h ⟨hm, z⟩
      obtain ⟨i', k, hik, e3, e4⟩ := ha _ h1
      obtain ⟨k', j', hkj, e5, e6⟩ := ha _ h2
      obtain ⟨l1, q1⟩ := (List.getElem?_eq_some_iff.mp e1)
      obtain ⟨l2, q2⟩ := (List.getElem?_eq_some_iff.mp e2)
      obtain ⟨l3, q3⟩ := (List.getElem?_eq_some_iff.mp e3)
      obtain ⟨l4, q4⟩ := (List.getElem?_eq_some_iff.mp e4)
      obtain ⟨l5, q5⟩ := (List.getElem?_eq_some_iff.mp e5)
      obtain ⟨l6, q6⟩ := (List.getElem?_eq_some_iff.mp e6)
      have z1 := (List.getElem_inj n).mp (q1.trans q3.symm)
      have z2 := (List.getElem_inj n).mp (q2.trans q6.symm)
      have z3 := (List.getElem_inj n).mp (q4.trans q5.symm)
      have e4' : o[k]? = some m := e4
      exact (need_gen n hC ha d i k a m e1 e4' (by omega) h1).trans (need_gen n hC ha d k j m b e4' e2 (by omega) h2)
theorem need_isC {o ns : List Str} (n : o.Nodup) {C ps : List Pr} (h : IsC C ps) (hC : ∀ p ∈ C, p.1 ∈ ns ∧ p.2 ∈ ns) (ha : ∀ p ∈ C, ahead o p) : ∀ a b, Way (needP ns C) a b ↔ Way ps a b := fun a b => by
  rw [← h.iff]
  constructor
  · intro w
    exact w.into (fun p hp => ((mem_need hC).mp hp).1) h.trn
  · intro hm
    obtain ⟨i, j, hij, e1, e2⟩ := ha _ hm
    exact need_gen n hC ha (j - i) i j a b e1 e2 (Nat.le_refl _) hm
theorem need_sub {ns : List Str} {C ps : List Pr} (h : IsC C ps) (hC : ∀ p ∈ C, p.1 ∈ ns ∧ p.2 ∈ ns) {p : Pr} (hp : p ∈ needP ns C) : p ∈ ps := by
  obtain ⟨h1, h2⟩ := (mem_need hC).mp hp
  cases (h.iff p.1 p.2).mp h1 with
  | one e => exact e
  | more e w => exact absurd ⟨_, h.sub e, (h.iff _ _).mpr w⟩ h2
/-- with one tie less: the same closure just where the tie follows -/
theorem rest_iff {o ns : List Str} (n : o.Nodup) {C C3 ps : List Pr} (h : IsC C ps) (hC : ∀ p ∈ C, p.1 ∈ ns ∧ p.2 ∈ ns) (ha : ∀ p ∈ C, ahead o p) {q : Pr} (hq : q ∈ C) (h3 : IsC C3 (C.filter fun p => !decide (p = q))) : C3 = C ↔ q ∉ needP ns C := by
  have mr : ∀ p, p ∈ (C.filter fun p => !decide (p = q)) ↔ p ∈ C ∧ p ≠ q := fun p => by
    rw [List.mem_filter]
    simp
  constructor
  · intro e hn
    obtain ⟨_, h2⟩ := (mem_need hC).mp hn
    have w : Way (C.filter fun p => !decide (p = q)) q.1 q.2 := (h3.iff _ _).mp (by rw [e]; exact hq)
    cases w with
    | one e => exact ((mr _).mp e).2 rfl
    | more e w => exact h2 ⟨_, ((mr _).mp e).1, w.into (fun p hp => ((mr p).mp hp).1) h.trn⟩
  · intro hn
    rw [mem_need hC] at hn
    obtain ⟨m, h1, h2⟩ := Classical.byContradiction fun z => hn ⟨hq, z⟩
    have w : Way (C.filter fun p => !decide (p = q)) q.1 q.2 := by
      refine .more ((mr _).mpr ⟨h1, fun e => ?_⟩) (.one ((mr _).mpr ⟨h2, fun e => ?_⟩))
      · rw [show m = q.2 from congrArg Prod.snd e] at h2
        exact not_ahead n (ha _ h2)
      · rw [show m = q.1 from congrArg Prod.fst e] at h1
        exact not_ahead n (ha _ h1)
    refine h3.uniq h fun a b => ⟨fun w' => (h.iff _ _).mp (w'.into (fun p hp => ((mr p).mp hp).1) h.trn), fun w' => ?_⟩
    by_cases e : (a, b) = q
    · subst e
      exact w
    · exact .one ((mr _).mpr ⟨(h.iff _ _).mpr w', e⟩)
theorem dEq_more {ps : List Pr} {P : D → Prop} (h : prsOk ps) (hl : ps.length ≤ 1000) (q : P (.bl false)) : dEq (.lst (ps.map pD)) (.lst (ps.map pD ++ [.int 0])) P := by
  refine dEq_gen (pl_pairs h (by omega)) (plL (by rw [List.length_append, List.length_map, List.length_singleton]; omega) (pls_app (pls_pairs h) rfl)) (Nat.le_trans dep_pairs (by decide)) ?_ ?_
  · have := deps_app (n := 1) (deps_pairs (ps := ps)) (show deps [D.int 0] ≤ 1 by decide)
    simp only [dep]
    omega
  · have e : ∀ ps : List Pr, toPys (ps.map pD ++ [.int 0]) = some (ps.map pPy ++ [.int 0]) := fun ps => by
      induction ps with
      | nil => rfl
      | cons p ps ih =>
        rw [List.map_cons, List.cons_append]
        simp only [toPys, ih]
        rfl
    have e2 : pyOf (.lst (ps.map pD ++ [.int 0])) = .list (ps.map pPy ++ [.int 0]) := by
      unfold pyOf
      simp only [toPy, e ps]
      rfl
    rw [pyOf_pairs, e2]
    simp only [PyData.eqv]
    rw [SeqAt.eqvAll_other_length (by simp)]
    exact q
theorem filter_self {C : List Pr} {g : Pr → Bool} : C.filter (fun x => decide (x ∈ C.filter g)) = C.filter g := by
  refine List.filter_congr fun x hx => ?_
  apply Bool.eq_iff_iff.mpr
  rw [decide_eq_true_eq, List.mem_filter]
  exact ⟨fun h => h.2, fun h => ⟨hx, h⟩⟩
theorem ok_law (T : Txt P w K mg) : FnOk P w K mg base CX0 23 T.a_law T.fd_law ["_law_script"] (spLaw K) := by
  obtain ⟨_, bd_Ties___init___3v, bd_Ties___init___3b⟩ := bd_Ties___init___3 T
  refine T.F_law.ok sc_law (fun vs H Q E h => ?_) (fun cdv A outer s H vs Q E hr h => ?_)
  · obtain ⟨a, ns, rfl, _⟩ := h
    rfl
  obtain ⟨a, ns, rfl, hS, hl, q⟩ := h
  refine ⟨_, pss_cons (ps_set (i := 1) sc_law.nd rfl (by first | exact Or.inl rfl | exact Or.inr rfl) (pe_call ((ok__law_bag T).mono (by decide)) hr (by rfl) T.g__law_bag T.F__law_bag.kp (bn__law_bag T) .nil pass0 (pa_cons (pv 0) pa_nil))) (pss_cons (ps_for PassesOwn.never (by rfl) (pi_range1 (by rfl) T.b_range (pa_cons pe_int pa_nil)) (pg_name (i := 2) sc_law.nd rfl (by first | exact Or.inl rfl | exact Or.inr rfl)) (pss_cons (ps_set (i := 3) sc_law.nd rfl (by first | exact Or.inl rfl | exact Or.inr rfl) (pe_call ((ok__law_titles T).mono (by decide)) hr (by rfl) T.g__law_titles T.F__law_titles.kp (bn__law_titles T) .nil pass0 (pa_cons (pv 1) (pa_cons (pe_op q_add pe_int (pe_call ((ok__law_pull T).mono (by decide)) hr (by rfl) T.g__law_pull T.F__law_pull.kp (bn__law_pull T) .nil pass0 (pa_cons (pv 1) (pa_cons pe_int pa_nil)))) pa_nil)))) (pss_cons (ps_set (i := 4) sc_law.nd rfl (by first | exact Or.inl rfl | exact Or.inr rfl) (pe_call ((ok__law_duos T).mono (by decide)) hr (by rfl) T.g__law_duos T.F__law_duos.kp (bn__law_duos T) .nil pass0 (pa_cons (pv 1) (pa_cons (pv 3) (pa_cons (pe_op q_add pe_int (pe_call ((ok__law_pull T).mono (by decide)) hr (by rfl) T.g__law_pull T.F__law_pull.kp (bn__law_pull T) .nil pass0 (pa_cons (pv 1) (pa_cons pe_int pa_nil)))) pa_nil))))) (pss_cons (ps_par (i := 7) (j := 8) (by rfl) sc_law.nd rfl rfl (by decide) rfl rfl (pa_cons (pe_call ((ok__law_closed T).mono (by decide)) hr (by rfl) T.g__law_closed T.F__law_closed.kp (bn__law_closed T) .nil pass0 (pa_cons (pv 4) pa_nil)) (pa_cons (pe_make T.mk_Ties ((ok_Ties___init__ T).mono (by decide)) hr (by rfl) T.g_Ties bd_Ties___init___3b bd_Ties___init___3v pass0 (pa_cons (pv 3) (pa_cons (pv 4) pa_nil))) pa_nil)) (by rfl)) (pss_cons (ps_set (i := 5) sc_law.nd rfl (by first | exact Or.inl rfl | exact Or.inr rfl) (pe_meth0 (pv 8) T.cl_Ties T.me_Ties_needed ((okN_Ties_needed T).mono (by decide)) hr (bn_Ties_needed T) .nil passF)) (pss_cons (ps_if (PW.pt (pw_or (pt_not (pt_val (pe_call ((ok__law_same T).mono (by decide)) hr (by rfl) T.g__law_same T.F__law_same.kp (bn__law_same T) .nil pass0 (pa_cons (pv 5) (pa_cons (pe_lc (own := [("_law_duo", 6)]) (by rfl) sc_law.nd (pi_any (pv 7)) (blkOk_by (own := [("_law_duo", 6)]) (N := ["_law_script", "_law_bag_here", "_law_turn", "_law_titles_here", "_law_duos_here", "_law_found", "_law_duo", "_law_due", "_law_made", "_law_rest", "_law_late"]) (sc := defScope s_law) (by decide +kernel)) (fun _ _ _ _ _ => (pg_name (i := 6) sc_law.nd rfl (by first | exact Or.inl rfl | exact Or.inr rfl))) (fun _ _ _ _ _ => (pts_one (pt_cmpR (q_inWK (K := K) rfl (hu65 hr)) (pv 6) (pv 5) rfl))) (fun _ _ _ _ _ => (pv 6))) pa_nil))))) (pw_or1 (pt_cmpR (q_neK (K := K) rfl (hu64 hr)) (pe_call ((ok__law_closed T).mono (by decide)) hr (by rfl) T.g__law_closed T.F__law_closed.kp (bn__law_closed T) .nil pass0 (pa_cons (pv 5) pa_nil)) (pv 7) (nomark _))))) (pss_one (ps_ret pe_bl)) pss_nil) (pss_cons (ps_for PassesOwn.never (by rfl) (pi_any (pv 7)) (pg_name (i := 6) sc_law.nd rfl (by first | exact Or.inl rfl | exact Or.inr rfl)) (pss_cons (ps_setLc (i := 9) (own := [("_law_late", 10)]) (by rfl) sc_law.nd rfl rfl (sw_true rfl rfl rfl (by decide +kernel)) (pi_any (pv 7)) (blkOk_by (own := [("_law_late", 10)]) (N := ["_law_script", "_law_bag_here", "_law_turn", "_law_titles_here", "_law_duos_here", "_law_found", "_law_duo", "_law_due", "_law_made", "_law_rest", "_law_late"]) (sc := defScope s_law) (by decide +kernel)) (fun _ _ _ _ _ => (pg_name (i := 10) sc_law.nd rfl (by first | exact Or.inl rfl | exact Or.inr rfl))) (fun _ _ _ _ _ => (pts_one (pt_cmpR (q_neK (K := K) rfl (hu64 hr)) (pv 10) (pv 6) (nomark _)))) (fun _ _ _ _ _ => (pv 10))) (pss_one (ps_if (pt_cmpR (q_eqK (K := K) rfl (hu64 hr)) (pe_cmpR (q_eqK (K := K) rfl (hu64 hr)) (pe_call ((ok__law_closed T).mono (by decide)) hr (by rfl) T.g__law_closed T.F__law_closed.kp (bn__law_closed T) .nil pass0 (pa_cons (pv 9) pa_nil)) (pv 7) (nomark _)) (pe_cmpR (q_inWK (K := K) rfl (hu65 hr)) (pv 6) (pv 5) rfl) (nomark _)) (pss_one (ps_ret pe_bl)) pss_nil)))) (pss_cons (ps_if (PW.pt (pw_or (pt_cmpR (q_neK (K := K) rfl (hu64 hr)) (pe_lc (own := [("_law_duo", 6)]) (by rfl) sc_law.nd (pi_any (pv 5)) (blkOk_by (own := [("_law_duo", 6)]) (N := ["_law_script", "_law_bag_here", "_law_turn", "_law_titles_here", "_law_duos_here", "_law_found", "_law_duo", "_law_due", "_law_made", "_law_rest", "_law_late"]) (sc := defScope s_law) (by decide +kernel)) (fun _ _ _ _ _ => (pg_name (i := 6) sc_law.nd rfl (by first | exact Or.inl rfl | exact Or.inr rfl))) (fun _ _ _ _ _ => (pts_one (pt_cmpR (q_ninWK (K := K) rfl (hu65 hr)) (pv 6) (pv 4) rfl))) (fun _ _ _ _ _ => (pv 6))) (pe_lst pa_nil) (nomark _)) (pw_or1 (pt_not (pt_val (pe_call ((ok__law_same T).mono (by decide)) hr (by rfl) T.g__law_same T.F__law_same.kp (bn__law_same T) .nil pass0 (pa_cons (pe_meth0 (pe_make T.mk_Ties ((ok_Ties___init__ T).mono (by decide)) hr (by rfl) T.g_Ties bd_Ties___init___3b bd_Ties___init___3v pass0 (pa_cons (pv 3) (pa_cons (pv 5) pa_nil))) T.cl_Ties T.me_Ties_needed ((ok_Ties_needed T).mono (by decide)) hr (bn_Ties_needed T) .nil passF) (pa_cons (pv 5) pa_nil)))))))) (pss_one (ps_ret pe_bl)) pss_nil) (pss_cons (ps_expr (pe_bm PySem.F.plainAttrs_list PySem.F.slot_list_append PySem.F.type_list_append mt_append (pv 5) (pa_cons pe_int pa_nil))) (pss_one (ps_if (PW.pt (pw_or (pt_cmpR (q_eqK (K := K) rfl (hu64 hr)) (pe_meth0 (pv 8) T.cl_Ties T.me_Ties_needed ((ok_Ties_needed T).mono (by decide)) hr (bn_Ties_needed T) .nil passF) (pv 5) (nomark _)) (pw_or1 (pt_cmpR (q_neK (K := K) rfl (hu64 hr)) (pe_meth0 (pv 8) T.cl_Ties T.me_Ties_pairs ((ok_Ties_pairs T).mono (by decide)) hr (bn_Ties_pairs T) .nil pass0) (pv 7) (nomark _))))) (pss_one (ps_ret pe_bl)) pss_nil))))))))))) (pss_one (ps_ret (pe_cmpR (q_eqK (K := K) rfl (hu64 hr)) (pe_meth0 (pe_make T.mk_Ties ((ok_Ties___init__ T).mono (by decide)) hr (by rfl) T.g_Ties bd_Ties___init___3b bd_Ties___init___3v pass0 (pa_cons (pe_lst (pa_cons pe_str (pa_cons pe_str (pa_cons pe_str pa_nil)))) (pa_cons (pe_lst (pa_cons (pe_tup (pa_cons pe_str (pa_cons pe_str pa_nil))) (pa_cons (pe_tup (pa_cons pe_str (pa_cons pe_str pa_nil))) (pa_cons (pe_tup (pa_cons pe_str (pa_cons pe_str pa_nil))) pa_nil)))) pa_nil))) T.cl_Ties T.me_Ties_needed ((ok_Ties_needed T).mono (by decide)) hr (bn_Ties_needed T) .nil passF) (pe_lst (pa_cons (pe_tup (pa_cons pe_str (pa_cons pe_str pa_nil))) (pa_cons (pe_tup (pa_cons pe_str (pa_cons pe_str pa_nil))) pa_nil))) (nomark _))))), ?_⟩
  refine ⟨_, rfl, a, ns, rfl, hS, hl, fun b H1 hb hB _ => ?_⟩
  dsimp only
  refine law_rest (c := Fm.law b) (q := q) (sim_seq (sim_for (si_range1 sim_int) sgn_name.g (sim_seq (sim_asg (sim_call (sim_cons sim_var (sim_cons (sim_op sr_add sim_int (sim_call (sim_cons sim_var (sim_cons sim_int sim_nil)))) sim_nil))) sgn_name.g) (sim_seq (sim_asg (sim_call (sim_cons sim_var (sim_cons sim_var (sim_cons (sim_op sr_add sim_int (sim_call (sim_cons sim_var (sim_cons sim_int sim_nil)))) sim_nil)))) sgn_name.g) (sim_seq (sim_parVV (sim_call (sim_cons sim_var sim_nil)) (sim_make (dvs := []) (dd := []) (fun _ => rfl) (sim_cons sim_var (sim_cons sim_var sim_nil))) (by decide)) (sim_seq (sim_asgO (sn_methX (dvs := []) (dd := []) er_none (fun _ => rfl) sim_var sim_nil)) (sim_seq (sim_ifS (sim_or (sim_not (sim_B (sim_call (sim_cons sim_var (sim_cons (sim_lc (si_any sim_var) sgn_name (sim_test (sim_op sr_inW sim_var sim_var)) sim_var) sim_nil))))) (sim_test (sim_op sr_ne (sim_call (sim_cons sim_var sim_nil)) sim_var))) (sim_ret sim_bl) sim_next) (sim_seq (sim_for (si_any sim_var) sgn_name.g (sim_seq (sim_asg (sim_lc (si_any sim_var) sgn_name (sim_test (sim_op sr_ne sim_var sim_var)) sim_var) sgn_name.g) (sim_ifS (sim_test (sim_op sr_eq (sim_op sr_eq (sim_call (sim_cons sim_var sim_nil)) sim_var) (sim_op sr_inW sim_var sim_var))) (sim_ret sim_bl) sim_next))) (sim_seq (sim_ifS (sim_frzT 5 (sim_or (sim_test (sim_op sr_ne (sim_lc (si_any sim_var) sgn_name (sim_test (sim_op sr_inW sim_var sim_var)) sim_var) (sim_lst sim_nil))) (sim_not (sim_B (sim_call (sim_cons (sim_methX er_none (dvs := []) (dd := []) (fun _ => rfl) (sim_make (dvs := []) (dd := []) (fun _ => rfl) (sim_cons sim_var (sim_cons sim_var sim_nil))) sim_nil) (sim_cons sim_var sim_nil))))))) (sim_ret sim_bl) sim_next) (sim_seq (sim_append (sx_E sim_int)) (sim_ifS (sim_or (sim_test (sim_op sr_eq (sim_methX er_none (dvs := []) (dd := []) (fun _ => rfl) sim_var sim_nil) sim_var)) (sim_test (sim_op sr_ne (sim_meth (dvs := []) (dd := []) (fun _ => rfl) sim_var sim_nil) sim_var))) (sim_ret sim_bl) sim_next)))))))))) (sim_ret (sim_op sr_eq (sim_methX er_none (dvs := []) (dd := []) (fun _ => rfl) (sim_make (dvs := []) (dd := []) (fun _ => rfl) (sim_cons (sim_lst (sim_cons sim_str (sim_cons sim_str (sim_cons sim_str sim_nil)))) (sim_cons (sim_lst (sim_cons (sim_tup (sim_cons sim_str (sim_cons sim_str sim_nil))) (sim_cons (sim_tup (sim_cons sim_str (sim_cons sim_str sim_nil))) (sim_cons (sim_tup (sim_cons sim_str (sim_cons sim_str sim_nil))) sim_nil)))) sim_nil))) sim_nil) (sim_lst (sim_cons (sim_tup (sim_cons sim_str (sim_cons sim_str sim_nil))) (sim_cons (sim_tup (sim_cons sim_str (sim_cons sim_str sim_nil))) sim_nil)))))) rfl hb hB rfl ?_
  walk_at "qd"
  refine ⟨by decide, by decide, ?_⟩
  refine dFor_inv (fun i ρ => ∃ x2 x3 x4 x5 x6 x7 x8 x9 x10, ρ = [none, some (Ent.val (.raw (.ref b.1))), x2, x3, x4, x5, x6, x7, x8, x9, x10]) ⟨_, _, _, _, _, _, _, _, _, rfl⟩ (fun i x ρ hx hI N hN => ?_) (fun ρ hI => ?_)
  · obtain ⟨x2, x3, x4, x5, x6, x7, x8, x9, x10, rfl⟩ := hI
    walk_at "q0"
    refine seq_asg_cut (fun d => ∃ ts : List Str, d = .lst (ts.map D.str) ∧ ts.length ≤ 7 ∧ (∀ t ∈ ts, nameS t) ∧ ts.Nodup) (fun P hP => ?_) fun d hd => ?_
    · walk_at "qd"
      refine ⟨b, 7, rfl, rfl, by decide, by decide, fun k k0 k1 => ?_⟩
      walk_at "qd"
      refine ⟨b, 1 + k, rfl, rfl, by omega, by omega, fun ts t1 t2 t3 => hP _ ⟨ts, rfl, by omega, t2, t3⟩⟩
    obtain ⟨ts, rfl, t7, tn, td⟩ := hd
    refine seq_asg_cut (fun d => ∃ (o : List Str) (ps : List Pr), d = .lst (ps.map pD) ∧ o.Perm ts ∧ (∀ p ∈ ps, ahead o p) ∧ ps.length ≤ 144) (fun P hP => ?_) fun d hd => ?_
    · walk_at "qd"
      refine ⟨b, 3, rfl, rfl, by decide, by decide, fun k k0 k1 => ?_⟩
      walk_at "qd"
      refine ⟨b, ts, _, rfl, rfl, tn, by omega, fun o ps h1 h2 h3 => hP _ ⟨o, ps, rfl, h1, h2, h3⟩⟩
    obtain ⟨o, ps, rfl, ho, ha0, hps⟩ := hd
    have on : o.Nodup := ho.nodup_iff.mpr td
    have hpn : ∀ p ∈ ps, p.1 ∈ ts ∧ p.2 ∈ ts := fun p hp => by
      obtain ⟨i, j, _, e1, e2⟩ := ha0 p hp
      exact ⟨ho.mem_iff.mp (List.mem_of_getElem? e1), ho.mem_iff.mp (List.mem_of_getElem? e2)⟩
    have nor : ∀ a, ¬ Way ps a a := fun a w => not_ahead on (way_ahead on ha0 w)
    refine seq_par_cut (fun x y => ∃ C : List Pr, x = .lst (C.map pD) ∧ y = .ins T.C_Ties (tiesF ts C) ∧ IsC C ps) (fun P hP => ?_) fun x y hxy => ?_
    · walk_at "qd"
      refine ⟨ts, ps, rfl, hpn, tn, t7, by omega, fun C hC => ?_⟩
      walk_at "qd"
      refine ⟨ts, ps, rfl, by omega, tn, td, hpn, by omega, nor, fun C' hC' _ => ?_⟩
      rw [hC'.uniq hC fun _ _ => Iff.rfl]
      exact hP _ _ ⟨C, rfl, rfl, hC⟩
    obtain ⟨C, rfl, rfl, hC⟩ := hxy
    have hCn : ∀ p ∈ C, p.1 ∈ ts ∧ p.2 ∈ ts := fun p hp => by
      obtain ⟨⟨x, hx⟩, ⟨y, hy⟩⟩ := hC.ends hp
      exact ⟨(hpn _ hx).1, (hpn _ hy).2⟩
    have hCa : ∀ p ∈ C, ahead o p := fun p hp => way_ahead on ha0 ((hC.iff p.1 p.2).mp hp)
    have hCl : C.length ≤ 49 := by
      have := few_pairs hC.nod hCn
      have z : ts.length * ts.length ≤ 7 * 7 := Nat.mul_le_mul t7 t7
      omega
    have okC : prsOk C := fun p hp => ⟨tn _ (hCn p hp).1, tn _ (hCn p hp).2⟩
    refine seq_asgO_cut (fun ds => ds = (needP ts C).map pD) (fun P hP => ?_) fun ds hds => ?_
    · walk_at "qd"
      refine ⟨ts, C, rfl, by omega, by omega, ?_⟩
      exact hP _ rfl
    subst hds
    have nS : ∀ {p}, p ∈ needP ts C → p ∈ C := fun h => ((mem_need hCn).mp h).1
    have okN : prsOk (needP ts C) := fun p hp => okC p (nS hp)
    have hNl : (needP ts C).length ≤ 49 := Nat.le_trans (List.length_filter_le _ _) hCl
    have hN2 : ∀ p ∈ needP ts C, p.1 ∈ ts ∧ p.2 ∈ ts := fun p hp => hCn p (nS hp)
    walk_at "qd"
    refine lc_prs (fun p => decide (p ∈ needP ts C)) id C (by omega) (fun r hr Q hQ => ?_) (fun r hr _ Q hQ => ?_) ?_
    · walk_at "qd"
      exact in_pair (P := fun z => asBl z Q) okN (okC r hr) (by omega) hQ
    · walk_at "qd"
      exact hQ
    rw [List.map_id, show C.filter (fun p => decide (p ∈ needP ts C)) = needP ts C from filter_self]
    walk_at "qd"
    refine ⟨_, rfl, pl_pairs okN (by omega), Nat.lt_of_le_of_lt dep_pairs (by decide), ?_⟩
    walk_at "qd"
    refine ⟨ts, needP ts C, rfl, hN2, tn, t7, by omega, fun C2 hC2 => ?_⟩
    have eC2 : C2 = C := hC2.uniq hC (need_isC on hC hCn hCa)
    subst eC2
    walk_at "qd"
    refine dNe_pairs okC okC (by omega) (by omega) ?_
    rw [decide_eq_true rfl]
    walk_at "qd"
    refine dFor_inv (fun i ρ => ∃ x6 x9, ρ = [none, some (Ent.val (.raw (.ref b.1))), some (Ent.val x), some (Ent.val (D.lst (ts.map D.str))), some (Ent.val (D.lst (ps.map pD))), some (Ent.own (D.lst ((needP ts C2).map pD))), x6, some (Ent.val (D.lst (C2.map pD))), some (Ent.val (D.ins T.C_Ties (tiesF ts C2))), x9, x10]) ⟨_, _, rfl⟩ (fun i q ρ hx hI N' hN' => ?_) (fun ρ hI => ?_)
    · obtain ⟨x6, x9, rfl⟩ := hI
      rw [List.getElem?_map] at hx
      obtain ⟨q, hq, rfl⟩ := Option.map_eq_some_iff.mp hx
      have hqC := List.mem_of_getElem? hq
      walk_at "qd"
      refine lc_prs (fun p => !decide (p = q)) id C2 (by omega) (fun r hr Q hQ => ?_) (fun r hr _ Q hQ => ?_) ?_
      · walk_at "qd"
        exact dNe_pD (P := fun z => asBl z Q) (okC r hr) (okC q hqC) hQ
      · walk_at "qd"
        exact hQ
      rw [List.map_id]
      have lR : (C2.filter fun p => !decide (p = q)).length ≤ 49 := Nat.le_trans (List.length_filter_le _ _) hCl
      walk_at "qd"
      refine ⟨ts, _, rfl, fun p hp => hCn p (List.mem_filter.mp hp).1, tn, t7, by omega, fun C3 hC3 => ?_⟩
      have iff3 := rest_iff on hC hCn hCa hqC hC3
      have hC3n : ∀ p ∈ C3, p.1 ∈ ts ∧ p.2 ∈ ts := fun p hp => by
        obtain ⟨⟨x, hx⟩, ⟨y, hy⟩⟩ := hC3.ends hp
        exact ⟨(hCn _ (List.mem_filter.mp hx).1).1, (hCn _ (List.mem_filter.mp hy).1).2⟩
      have okC3 : prsOk C3 := fun p hp => ⟨tn _ (hC3n p hp).1, tn _ (hC3n p hp).2⟩
      have hC3l : C3.length ≤ 49 := by
        have := few_pairs hC3.nod hC3n
        have z : ts.length * ts.length ≤ 7 * 7 := Nat.mul_le_mul t7 t7
        omega
      walk_at "qd"
      refine dEq_pairs okC3 okC (by omega) (by omega) ?_
      walk_at "qd"
      refine optP_of (inW_pair okN (okC q hqC) (by omega)) ?_
      refine dEq_bl ?_
      have ef : decide (decide (C3 = C2) = decide (q ∈ needP ts C2)) = false := by
        refine decide_eq_false fun e => ?_
        by_cases h : C3 = C2
        · rw [decide_eq_true h] at e
          exact iff3.mp h (of_decide_eq_true e.symm)
        · rw [decide_eq_false h] at e
          exact h (iff3.mpr (of_decide_eq_false e.symm))
      rw [ef]
      walk_at "qd"
      exact hN' _ ⟨_, _, rfl⟩
    · obtain ⟨x6, x9, rfl⟩ := hI
      walk_at "qd"
      have okps : prsOk ps := fun p hp => ⟨tn _ (hpn p hp).1, tn _ (hpn p hp).2⟩
      refine lc_prs (fun p => !decide (p ∈ ps)) id _ (by omega) (fun r hr Q hQ => ?_) (fun r hr _ Q hQ => ?_) ?_
      · walk_at "qd"
        exact nin_pair (P := fun z => asBl z Q) okps (okN r hr) (by omega) hQ
      · walk_at "qd"
        exact hQ
      rw [show (needP ts C2).filter (fun p => !decide (p ∈ ps)) = [] from List.filter_eq_nil_iff.mpr fun p hp => by simp [need_sub hC hCn hp]]
      walk_at "qd"
      refine ⟨Nat.zero_le _, dNe_nil rfl (by decide) ?_⟩
      walk_at "qd"
      refine ⟨ts, needP ts C2, rfl, by omega, tn, td, hN2, by omega, fun a w => nor a ((need_isC on hC hCn hCa a a).mp w), fun C4 hC4 _ => ?_⟩
      have eC4 : C4 = C2 := hC4.uniq hC (need_isC on hC hCn hCa)
      rw [eC4]
      walk_at "qd"
      refine ⟨ts, C2, rfl, by omega, by omega, ?_⟩
      walk_at "qd"
      refine ⟨_, rfl, pl_pairs okN (by omega), Nat.lt_of_le_of_lt dep_pairs (by decide), ?_⟩
      walk_at "qd"
      refine ⟨sl16' (by rw [List.length_map]; omega), ?_⟩
      walk_at "qd"
      refine ⟨ts, C2, rfl, by omega, by omega, ?_⟩
      walk_at "qd"
      refine dEq_more okN (by omega) ?_
      walk_at "qd"
      refine ⟨ts, C2, rfl, ?_⟩
      walk_at "qd"
      refine dNe_pairs okC okC (by omega) (by omega) ?_
      rw [decide_eq_true rfl]
      walk_at "qd"
      exact hN _ ⟨_, _, _, _, _, _, _, _, _, rfl⟩
  · obtain ⟨x2, x3, x4, x5, x6, x7, x8, x9, x10, rfl⟩ := hI
    walk_at "qd"
    have en : ([.str "a", .str "b", .str "c"] : List D) = ([Str.ofString "a", Str.ofString "b", Str.ofString "c"] : List Str).map D.str := rfl
    have nms : ∀ t ∈ ([Str.ofString "a", Str.ofString "b", Str.ofString "c"] : List Str), nameS t := by
      have e : ([Str.ofString "a", Str.ofString "b", Str.ofString "c"] : List Str).all (fun t => madeD (.str t) sLETTERS 8) = true := by decide +kernel
      intro t ht
      have := made_word (List.all_eq_true.mp e t ht)
      exact ⟨this.1, by omega, this.2.2⟩
    obtain ⟨ns3, hns⟩ : ∃ x : List Str, x = [Str.ofString "a", Str.ofString "b", Str.ofString "c"] := ⟨_, rfl⟩
    obtain ⟨ps3, hps3⟩ : ∃ x : List Pr, x = [(Str.ofString "a", Str.ofString "b"), (Str.ofString "a", Str.ofString "c"), (Str.ofString "b", Str.ofString "c")] := ⟨_, rfl⟩
    have hp3 : ∀ p ∈ ps3, p.1 ∈ ns3 ∧ p.2 ∈ ns3 := by rw [hns, hps3]; decide +kernel
    have hn3 : ns3.Nodup := by rw [hns]; decide +kernel
    have hm3 : ∀ t ∈ ns3, nameS t := by rw [hns]; exact nms
    have tr3 : trn ps3 := by
      have e : ∀ p ∈ ps3, ∀ q ∈ ps3, p.2 = q.1 → (p.1, q.2) ∈ ps3 := by rw [hps3]; decide +kernel
      exact fun a b c h1 h2 => e _ h1 _ h2 rfl
    have w3 : ∀ a b, Way ps3 a b ↔ (a, b) ∈ ps3 := fun a b => ⟨fun w => w.into (fun _ h => h) tr3, fun h => .one h⟩
    have ir3 : ∀ p ∈ ps3, p.1 ≠ p.2 := by rw [hps3]; decide +kernel
    have C3 : IsC ps3 ps3 := ⟨by rw [hps3]; decide +kernel, by rw [hps3]; decide +kernel, fun a b => (w3 a b).symm⟩
    refine ⟨by decide, by decide, by decide, by decide, by decide, ns3, ps3, by rw [hns, hps3]; rfl, by rw [hns]; decide, hm3, hn3, hp3, by rw [hps3]; decide, fun a w => ir3 _ ((w3 a a).mp w) rfl, fun C hC _ => ?_⟩
    rw [hC.uniq C3 fun _ _ => Iff.rfl]
    walk_at "qd"
    refine ⟨ns3, ps3, rfl, by rw [hns]; decide, by rw [hps3]; decide, ?_⟩
    have eN : needP ns3 ps3 = [(Str.ofString "a", Str.ofString "b"), (Str.ofString "b", Str.ofString "c")] := by
      unfold needP folB
      have e : ∀ f : Str → Bool, (sortS ns3).any f = ns3.any f := fun f => (sortS_perm ns3).any_eq
      rw [show (fun p : Pr => !(sortS ns3).any fun n => decide ((p.1, n) ∈ ps3) && decide ((n, p.2) ∈ ps3)) = (fun p : Pr => !ns3.any fun n => decide ((p.1, n) ∈ ps3) && decide ((n, p.2) ∈ ps3)) from funext fun p => by rw [e]]
      rw [hns, hps3]
      decide +kernel
    rw [eN]
    walk_at "qd"
    refine ⟨by decide, by decide, by decide, ?_⟩
    exact dEq_self (d := .lst [.tup [.str "a", .str "b"], .tup [.str "b", .str "c"]]) (by decide +kernel) (by decide +kernel) rfl
end
theorem all_mk {l : PySem.W.OpenLaw} {w : World} {K : PySem.W.Frag} {h : Heap} {mg : Str → Option Value} {fa : Addr} (X : K.In h) (G : h.Ns mainGlobals mg) (hfa : mg "law" = some (.ref fa))
  {od1 an1 : Option Addr} {sl1 : Array (Option Value)} {oc1 kV1 dc1 pm1 cd1 ct1 : Value} {f1 : Addr}
  {od2 an2 : Option Addr} {sl2 : Array (Option Value)} {oc2 kV2 dc2 pm2 cd2 ct2 : Value} {f2 : Addr}
  {od3 an3 : Option Addr} {sl3 : Array (Option Value)} {oc3 kV3 dc3 pm3 cd3 ct3 : Value} {f3 : Addr}
  {od4 an4 : Option Addr} {sl4 : Array (Option Value)} {oc4 kV4 dc4 pm4 cd4 ct4 : Value} {f4 : Addr}
  {od5 an5 : Option Addr} {sl5 : Array (Option Value)} {oc5 kV5 dc5 pm5 cd5 ct5 : Value} {f5 : Addr}
  {od6 an6 : Option Addr} {sl6 : Array (Option Value)} {oc6 kV6 dc6 pm6 cd6 ct6 : Value} {f6 : Addr}
  {od7 an7 : Option Addr} {sl7 : Array (Option Value)} {oc7 kV7 dc7 pm7 cd7 ct7 : Value} {f7 : Addr}
  {od8 an8 : Option Addr} {sl8 : Array (Option Value)} {oc8 kV8 dc8 pm8 cd8 ct8 : Value} {f8 : Addr}
  {od9 an9 : Option Addr} {sl9 : Array (Option Value)} {oc9 kV9 dc9 pm9 cd9 ct9 : Value} {f9 : Addr}
  {od10 an10 : Option Addr} {sl10 : Array (Option Value)} {oc10 kV10 dc10 pm10 cd10 ct10 : Value} {f10 : Addr}
  {od11 an11 : Option Addr} {sl11 : Array (Option Value)} {oc11 kV11 dc11 pm11 cd11 ct11 : Value} {f11 : Addr}
  {od12 an12 : Option Addr} {sl12 : Array (Option Value)} {oc12 kV12 dc12 pm12 cd12 ct12 : Value} {f12 : Addr}
  {od13 an13 : Option Addr} {sl13 : Array (Option Value)} {oc13 kV13 dc13 pm13 cd13 ct13 : Value} {f13 : Addr}
  {od14 an14 : Option Addr} {sl14 : Array (Option Value)} {oc14 kV14 dc14 pm14 cd14 ct14 : Value} {f14 : Addr}
  {od15 an15 : Option Addr} {sl15 : Array (Option Value)} {oc15 dc15 pm15 cd15 ct15 : Value} {f15 : Addr}
  {kV15 : Value}
  {dT15 : Addr} {to15 : Option Addr} {tc15 : Value} {ti15 : Array Value} {tn15 : Nat} {tl15 : Array (Option Value)}
  {e_d102_36 : Addr} {d102_36o : Option Addr} {d102_36c : Value} {d102_36i : Array Value} {d102_36n : Nat} {d102_36l : Array (Option Value)}
  {od16 an16 : Option Addr} {sl16 : Array (Option Value)} {oc16 kV16 dc16 pm16 cd16 ct16 : Value} {f16 : Addr}
  {od17 an17 : Option Addr} {sl17 : Array (Option Value)} {oc17 kV17 dc17 pm17 cd17 ct17 : Value} {f17 : Addr}
  {od18 an18 : Option Addr} {sl18 : Array (Option Value)} {oc18 kV18 dc18 pm18 cd18 ct18 : Value} {f18 : Addr}
  {od19 an19 : Option Addr} {sl19 : Array (Option Value)} {oc19 kV19 dc19 pm19 cd19 ct19 : Value} {f19 : Addr}
  {od20 an20 : Option Addr} {sl20 : Array (Option Value)} {oc20 kV20 dc20 pm20 cd20 ct20 : Value} {f20 : Addr}
  {t_LETTERS : Tok}
  {t_MOST_LETTERS : Tok}
  {t_MOST_NAMES : Tok}
  {c_Ties : Addr}
  (u_Ties : PySem.W.nsIn K mainGlobals "Ties" = some (some (.ref c_Ties)))
  (z_abs : PySem.W.nsIn K mainGlobals "abs" = some none)
  (z_all : PySem.W.nsIn K mainGlobals "all" = some none)
  (z_any : PySem.W.nsIn K mainGlobals "any" = some none)
  (z_bool : PySem.W.nsIn K mainGlobals "bool" = some none)
  (z_enumerate : PySem.W.nsIn K mainGlobals "enumerate" = some none)
  (z_int : PySem.W.nsIn K mainGlobals "int" = some none)
  (z_isinstance : PySem.W.nsIn K mainGlobals "isinstance" = some none)
  (z_len : PySem.W.nsIn K mainGlobals "len" = some none)
  (z_list : PySem.W.nsIn K mainGlobals "list" = some none)
  (z_range : PySem.W.nsIn K mainGlobals "range" = some none)
  (z_set : PySem.W.nsIn K mainGlobals "set" = some none)
  (z_sorted : PySem.W.nsIn K mainGlobals "sorted" = some none)
  (z_str : PySem.W.nsIn K mainGlobals "str" = some none)
  (z_tuple : PySem.W.nsIn K mainGlobals "tuple" = some none)
  (z_zip : PySem.W.nsIn K mainGlobals "zip" = some none)
  (y_LETTERS : PySem.W.nsIn K mainGlobals "LETTERS" = some (some (.str "abcdefghijklmnopqrstuvwxyz" t_LETTERS)))
  (y_MOST_LETTERS : PySem.W.nsIn K mainGlobals "MOST_LETTERS" = some (some (.int 8 t_MOST_LETTERS)))
  (y_MOST_NAMES : PySem.W.nsIn K mainGlobals "MOST_NAMES" = some (some (.int 12 t_MOST_NAMES)))
  (a1 : PySem.W.nsIn K mainGlobals "_law_bag" = some (some (.ref f1)))
  (l1 : K.lookup f1 = some ⟨oc1, od1, .func (PySem.W.fnOf "_law_bag" "_law_bag" (defArgs s__law_bag) (defBody s__law_bag) (defScope s__law_bag) .none kV1 dc1 pm1 an1 cd1 ct1), sl1⟩)
  (c1 : PySem.W.codeIn K cd1 "_law_bag" = true)
  (k1 : PySem.W.keepIn K (.ref f1) = true)
  (a2 : PySem.W.nsIn K mainGlobals "_law_pull" = some (some (.ref f2)))
  (l2 : K.lookup f2 = some ⟨oc2, od2, .func (PySem.W.fnOf "_law_pull" "_law_pull" (defArgs s__law_pull) (defBody s__law_pull) (defScope s__law_pull) .none kV2 dc2 pm2 an2 cd2 ct2), sl2⟩)
  (c2 : PySem.W.codeIn K cd2 "_law_pull" = true)
  (k2 : PySem.W.keepIn K (.ref f2) = true)
  (a3 : PySem.W.nsIn K mainGlobals "_law_of" = some (some (.ref f3)))
  (l3 : K.lookup f3 = some ⟨oc3, od3, .func (PySem.W.fnOf "_law_of" "_law_of" (defArgs s__law_of) (defBody s__law_of) (defScope s__law_of) .none kV3 dc3 pm3 an3 cd3 ct3), sl3⟩)
  (c3 : PySem.W.codeIn K cd3 "_law_of" = true)
  (k3 : PySem.W.keepIn K (.ref f3) = true)
  (a4 : PySem.W.nsIn K mainGlobals "_law_small" = some (some (.ref f4)))
  (l4 : K.lookup f4 = some ⟨oc4, od4, .func (PySem.W.fnOf "_law_small" "_law_small" (defArgs s__law_small) (defBody s__law_small) (defScope s__law_small) .none kV4 dc4 pm4 an4 cd4 ct4), sl4⟩)
  (c4 : PySem.W.codeIn K cd4 "_law_small" = true)
  (k4 : PySem.W.keepIn K (.ref f4) = true)
  (a5 : PySem.W.nsIn K mainGlobals "_law_titles" = some (some (.ref f5)))
  (l5 : K.lookup f5 = some ⟨oc5, od5, .func (PySem.W.fnOf "_law_titles" "_law_titles" (defArgs s__law_titles) (defBody s__law_titles) (defScope s__law_titles) .none kV5 dc5 pm5 an5 cd5 ct5), sl5⟩)
  (c5 : PySem.W.codeIn K cd5 "_law_titles" = true)
  (k5 : PySem.W.keepIn K (.ref f5) = true)
  (a6 : PySem.W.nsIn K mainGlobals "_law_mixed" = some (some (.ref f6)))
  (l6 : K.lookup f6 = some ⟨oc6, od6, .func (PySem.W.fnOf "_law_mixed" "_law_mixed" (defArgs s__law_mixed) (defBody s__law_mixed) (defScope s__law_mixed) .none kV6 dc6 pm6 an6 cd6 ct6), sl6⟩)
  (c6 : PySem.W.codeIn K cd6 "_law_mixed" = true)
  (k6 : PySem.W.keepIn K (.ref f6) = true)
  (a7 : PySem.W.nsIn K mainGlobals "_law_duos" = some (some (.ref f7)))
  (l7 : K.lookup f7 = some ⟨oc7, od7, .func (PySem.W.fnOf "_law_duos" "_law_duos" (defArgs s__law_duos) (defBody s__law_duos) (defScope s__law_duos) .none kV7 dc7 pm7 an7 cd7 ct7), sl7⟩)
  (c7 : PySem.W.codeIn K cd7 "_law_duos" = true)
  (k7 : PySem.W.keepIn K (.ref f7) = true)
  (a8 : PySem.W.nsIn K mainGlobals "_law_closed" = some (some (.ref f8)))
  (l8 : K.lookup f8 = some ⟨oc8, od8, .func (PySem.W.fnOf "_law_closed" "_law_closed" (defArgs s__law_closed) (defBody s__law_closed) (defScope s__law_closed) .none kV8 dc8 pm8 an8 cd8 ct8), sl8⟩)
  (c8 : PySem.W.codeIn K cd8 "_law_closed" = true)
  (k8 : PySem.W.keepIn K (.ref f8) = true)
  (a9 : PySem.W.nsIn K mainGlobals "_is_made_of" = some (some (.ref f9)))
  (l9 : K.lookup f9 = some ⟨oc9, od9, .func (PySem.W.fnOf "_is_made_of" "_is_made_of" (defArgs s__is_made_of) (defBody s__is_made_of) (defScope s__is_made_of) .none kV9 dc9 pm9 an9 cd9 ct9), sl9⟩)
  (c9 : PySem.W.codeIn K cd9 "_is_made_of" = true)
  (k9 : PySem.W.keepIn K (.ref f9) = true)
  (a10 : PySem.W.nsIn K mainGlobals "is_letter_word" = some (some (.ref f10)))
  (l10 : K.lookup f10 = some ⟨oc10, od10, .func (PySem.W.fnOf "is_letter_word" "is_letter_word" (defArgs s_is_letter_word) (defBody s_is_letter_word) (defScope s_is_letter_word) .none kV10 dc10 pm10 an10 cd10 ct10), sl10⟩)
  (c10 : PySem.W.codeIn K cd10 "is_letter_word" = true)
  (k10 : PySem.W.keepIn K (.ref f10) = true)
  (a11 : PySem.W.nsIn K mainGlobals "is_name" = some (some (.ref f11)))
  (l11 : K.lookup f11 = some ⟨oc11, od11, .func (PySem.W.fnOf "is_name" "is_name" (defArgs s_is_name) (defBody s_is_name) (defScope s_is_name) .none kV11 dc11 pm11 an11 cd11 ct11), sl11⟩)
  (c11 : PySem.W.codeIn K cd11 "is_name" = true)
  (k11 : PySem.W.keepIn K (.ref f11) = true)
  (a12 : PySem.W.nsIn K mainGlobals "_check_names" = some (some (.ref f12)))
  (l12 : K.lookup f12 = some ⟨oc12, od12, .func (PySem.W.fnOf "_check_names" "_check_names" (defArgs s__check_names) (defBody s__check_names) (defScope s__check_names) .none kV12 dc12 pm12 an12 cd12 ct12), sl12⟩)
  (c12 : PySem.W.codeIn K cd12 "_check_names" = true)
  (k12 : PySem.W.keepIn K (.ref f12) = true)
  (a13 : PySem.W.nsIn K mainGlobals "_check_pairs" = some (some (.ref f13)))
  (l13 : K.lookup f13 = some ⟨oc13, od13, .func (PySem.W.fnOf "_check_pairs" "_check_pairs" (defArgs s__check_pairs) (defBody s__check_pairs) (defScope s__check_pairs) .none kV13 dc13 pm13 an13 cd13 ct13), sl13⟩)
  (c13 : PySem.W.codeIn K cd13 "_check_pairs" = true)
  (k13 : PySem.W.keepIn K (.ref f13) = true)
  (a14 : PySem.W.nsIn K mainGlobals "_closed" = some (some (.ref f14)))
  (l14 : K.lookup f14 = some ⟨oc14, od14, .func (PySem.W.fnOf "_closed" "_closed" (defArgs s__closed) (defBody s__closed) (defScope s__closed) .none kV14 dc14 pm14 an14 cd14 ct14), sl14⟩)
  (c14 : PySem.W.codeIn K cd14 "_closed" = true)
  (k14 : PySem.W.keepIn K (.ref f14) = true)
  (a15 : PySem.W.findIn K (.ref c_Ties) "__init__" = some (some (.ref f15)))
  (l15 : K.lookup f15 = some ⟨oc15, od15, .func (PySem.W.fnOf "__init__" "Ties.__init__" (defArgs s_Ties___init__) (defBody s_Ties___init__) (defScope s_Ties___init__) (.ref dT15) kV15 dc15 pm15 an15 cd15 ct15), sl15⟩)
  (c15 : PySem.W.codeIn K cd15 "Ties.__init__" = true)
  (k15 : PySem.W.keepIn K (.ref f15) = true)
  (t15 : K.lookup dT15 = some ⟨tc15, to15, .seq ti15 tn15, tl15⟩)
  (v15 : Vals [.ref e_d102_36] ti15.toList)
  (d102_36h : K.lookup e_d102_36 = some ⟨d102_36c, d102_36o, .seq d102_36i d102_36n, d102_36l⟩)
  (d102_36t : d102_36c = .type "tuple")
  (d102_36z : d102_36i.size ≤ sizeLine)
  (d102_36v : Vals [] d102_36i.toList)
  (a16 : PySem.W.findIn K (.ref c_Ties) "_follows" = some (some (.ref f16)))
  (l16 : K.lookup f16 = some ⟨oc16, od16, .func (PySem.W.fnOf "_follows" "Ties._follows" (defArgs s_Ties__follows) (defBody s_Ties__follows) (defScope s_Ties__follows) .none kV16 dc16 pm16 an16 cd16 ct16), sl16⟩)
  (c16 : PySem.W.codeIn K cd16 "Ties._follows" = true)
  (k16 : PySem.W.keepIn K (.ref f16) = true)
  (a17 : PySem.W.findIn K (.ref c_Ties) "needed" = some (some (.ref f17)))
  (l17 : K.lookup f17 = some ⟨oc17, od17, .func (PySem.W.fnOf "needed" "Ties.needed" (defArgs s_Ties_needed) (defBody s_Ties_needed) (defScope s_Ties_needed) .none kV17 dc17 pm17 an17 cd17 ct17), sl17⟩)
  (c17 : PySem.W.codeIn K cd17 "Ties.needed" = true)
  (k17 : PySem.W.keepIn K (.ref f17) = true)
  (a18 : PySem.W.nsIn K mainGlobals "_law_same" = some (some (.ref f18)))
  (l18 : K.lookup f18 = some ⟨oc18, od18, .func (PySem.W.fnOf "_law_same" "_law_same" (defArgs s__law_same) (defBody s__law_same) (defScope s__law_same) .none kV18 dc18 pm18 an18 cd18 ct18), sl18⟩)
  (c18 : PySem.W.codeIn K cd18 "_law_same" = true)
  (k18 : PySem.W.keepIn K (.ref f18) = true)
  (a19 : PySem.W.findIn K (.ref c_Ties) "pairs" = some (some (.ref f19)))
  (l19 : K.lookup f19 = some ⟨oc19, od19, .func (PySem.W.fnOf "pairs" "Ties.pairs" (defArgs s_Ties_pairs) (defBody s_Ties_pairs) (defScope s_Ties_pairs) .none kV19 dc19 pm19 an19 cd19 ct19), sl19⟩)
  (c19 : PySem.W.codeIn K cd19 "Ties.pairs" = true)
  (k19 : PySem.W.keepIn K (.ref f19) = true)
  (a20 : PySem.W.nsIn K mainGlobals "law" = some (some (.ref f20)))
  (l20 : K.lookup f20 = some ⟨oc20, od20, .func (PySem.W.fnOf "law" "law" (defArgs s_law) (defBody s_law) (defScope s_law) .none kV20 dc20 pm20 an20 cd20 ct20), sl20⟩)
  (c20 : PySem.W.codeIn K cd20 "law" = true)
  (k20 : PySem.W.keepIn K (.ref f20) = true)
  (cl1_Ties : PySem.W.plainGet K c_Ties Str.empty = true)
  (cl2_Ties : PySem.W.hasDictIn K c_Ties = true)
  (cl3_Ties : PySem.W.plainOver K c_Ties = true)
  (cl4_Ties : PySem.W.findIn K (.ref c_Ties) "__setattr__" = some (some (.builtin "object.__setattr__")))
  (mk1_Ties : PySem.W.makesIn K c_Ties = true)
  (mk2_Ties : PySem.W.isFn K (.ref f15) = true)
  (mk3_Ties : PySem.W.keepIn K (.ref c_Ties) = true)
  (me2_Ties__follows : PySem.W.isFn K (.ref f16) = true)
  (me2_Ties_needed : PySem.W.isFn K (.ref f17) = true)
  (me2_Ties_pairs : PySem.W.isFn K (.ref f19) = true)
  (na_Ties__held : PySem.W.findIn K (.ref c_Ties) "_held" = some none)
  (na_Ties_names : PySem.W.findIn K (.ref c_Ties) "names" = some none) :
  ∃ fd : FuncData, (∀ (s : Shared) (v : Value), BindsTo s fd ⟨[v], []⟩ [("_law_script", v)]) ∧ ∀ base : Heap, K.In base → base.Ns mainGlobals mg → FnOk l.prog w K mg base CX0 23 fa fd ["_law_script"] (spLaw K) := by
  have e := hfa.symm.trans (PySem.W.mg_of X G a20)
  cases e
  refine ⟨_, fun s v => .of_eq rfl, fun base _ _ => ok_law (T := {
    F__law_bag := fun_mk (st := s__law_bag) l1 c1 k1,
    a__law_bag := f1,
    fd__law_bag := _,
    g__law_bag := PySem.W.mg_of X G a1,
    F__law_pull := fun_mk (st := s__law_pull) l2 c2 k2,
    a__law_pull := f2,
    fd__law_pull := _,
    g__law_pull := PySem.W.mg_of X G a2,
    F__law_of := fun_mk (st := s__law_of) l3 c3 k3,
    a__law_of := f3,
    fd__law_of := _,
    g__law_of := PySem.W.mg_of X G a3,
    F__law_small := fun_mk (st := s__law_small) l4 c4 k4,
    a__law_small := f4,
    fd__law_small := _,
    g__law_small := PySem.W.mg_of X G a4,
    F__law_titles := fun_mk (st := s__law_titles) l5 c5 k5,
    a__law_titles := f5,
    fd__law_titles := _,
    g__law_titles := PySem.W.mg_of X G a5,
    F__law_mixed := fun_mk (st := s__law_mixed) l6 c6 k6,
    a__law_mixed := f6,
    fd__law_mixed := _,
    g__law_mixed := PySem.W.mg_of X G a6,
    F__law_duos := fun_mk (st := s__law_duos) l7 c7 k7,
    a__law_duos := f7,
    fd__law_duos := _,
    g__law_duos := PySem.W.mg_of X G a7,
    F__law_closed := fun_mk (st := s__law_closed) l8 c8 k8,
    a__law_closed := f8,
    fd__law_closed := _,
    g__law_closed := PySem.W.mg_of X G a8,
    F__is_made_of := fun_mk (st := s__is_made_of) l9 c9 k9,
    a__is_made_of := f9,
    fd__is_made_of := _,
    g__is_made_of := PySem.W.mg_of X G a9,
    F_is_letter_word := fun_mk (st := s_is_letter_word) l10 c10 k10,
    a_is_letter_word := f10,
    fd_is_letter_word := _,
    g_is_letter_word := PySem.W.mg_of X G a10,
    F_is_name := fun_mk (st := s_is_name) l11 c11 k11,
    a_is_name := f11,
    fd_is_name := _,
    g_is_name := PySem.W.mg_of X G a11,
    F__check_names := fun_mk (st := s__check_names) l12 c12 k12,
    a__check_names := f12,
    fd__check_names := _,
    g__check_names := PySem.W.mg_of X G a12,
    F__check_pairs := fun_mk (st := s__check_pairs) l13 c13 k13,
    a__check_pairs := f13,
    fd__check_pairs := _,
    g__check_pairs := PySem.W.mg_of X G a13,
    F__closed := fun_mk (st := s__closed) l14 c14 k14,
    a__closed := f14,
    fd__closed := _,
    g__closed := PySem.W.mg_of X G a14,
    e_d102_36 := e_d102_36,
    r_d102_36 := fun H => ⟨e_d102_36, [], rfl, .inr ⟨_, d102_36i, d102_36n, d102_36h, d102_36t, rfl, d102_36z, d102_36v⟩, rfl⟩,
    F_Ties___init__ := ⟨⟨_, _, _, _, _, _, _, _, _, _, rfl, l15, c15, .inr ⟨by simp, dT15, _, ti15.toList, tn15, rfl, t15, rfl, v15⟩, .inl rfl⟩, k15⟩,
    a_Ties___init__ := f15,
    fd_Ties___init__ := _,
    F_Ties__follows := fun_mk (st := s_Ties__follows) l16 c16 k16,
    a_Ties__follows := f16,
    fd_Ties__follows := _,
    F_Ties_needed := fun_mk (st := s_Ties_needed) l17 c17 k17,
    a_Ties_needed := f17,
    fd_Ties_needed := _,
    F__law_same := fun_mk (st := s__law_same) l18 c18 k18,
    a__law_same := f18,
    fd__law_same := _,
    g__law_same := PySem.W.mg_of X G a18,
    F_Ties_pairs := fun_mk (st := s_Ties_pairs) l19 c19 k19,
    a_Ties_pairs := f19,
    fd_Ties_pairs := _,
    F_law := fun_mk (st := s_law) l20 c20 k20,
    a_law := fa,
    fd_law := _,
    g_law := PySem.W.mg_of X G a20,
    b_abs := PySem.W.mg_none_of X G z_abs,
    b_all := PySem.W.mg_none_of X G z_all,
    b_any := PySem.W.mg_none_of X G z_any,
    b_bool := PySem.W.mg_none_of X G z_bool,
    b_enumerate := PySem.W.mg_none_of X G z_enumerate,
    b_int := PySem.W.mg_none_of X G z_int,
    b_isinstance := PySem.W.mg_none_of X G z_isinstance,
    b_len := PySem.W.mg_none_of X G z_len,
    b_list := PySem.W.mg_none_of X G z_list,
    b_range := PySem.W.mg_none_of X G z_range,
    b_set := PySem.W.mg_none_of X G z_set,
    b_sorted := PySem.W.mg_none_of X G z_sorted,
    b_str := PySem.W.mg_none_of X G z_str,
    b_tuple := PySem.W.mg_none_of X G z_tuple,
    b_zip := PySem.W.mg_none_of X G z_zip,
    t_LETTERS := t_LETTERS,
    g_LETTERS := PySem.W.mg_of X G y_LETTERS,
    t_MOST_LETTERS := t_MOST_LETTERS,
    g_MOST_LETTERS := PySem.W.mg_of X G y_MOST_LETTERS,
    t_MOST_NAMES := t_MOST_NAMES,
    g_MOST_NAMES := PySem.W.mg_of X G y_MOST_NAMES,
    C_Ties := c_Ties,
    g_Ties := PySem.W.mg_of X G u_Ties,
    cl_Ties := ⟨cl1_Ties, cl2_Ties, cl3_Ties, cl4_Ties⟩,
    mk_Ties := ⟨mk1_Ties, a15, mk2_Ties, mk3_Ties⟩,
    me_Ties__follows := ⟨a16, me2_Ties__follows, k16⟩,
    me_Ties_needed := ⟨a17, me2_Ties_needed, k17⟩,
    me_Ties_pairs := ⟨a19, me2_Ties_pairs, k19⟩,
    na_Ties__held := na_Ties__held,
    na_Ties_names := na_Ties_names})⟩
theorem walk {l : PySem.W.OpenLaw} {q : Program} {loose : List Str} {XP : (Str → Option Value) → Heap → Prop} {YP : World → Heap → Prop} {d : DefRec} {K : Params → PySem.W.Frag} (hn : l.most = some 63) (hdf : d.params.defaults = [])
    (hY : ∀ (w : World) (h : Heap), YP w h → (K w.params).In h)
    (F : ∀ (w : World) (mg : Str → Option Value) (fa : Addr) (h : Heap), (K w.params).In h → h.Ns mainGlobals mg → mg d.name = some (.ref fa) →
      ∃ fd : FuncData, (∀ (s : Shared) (u : Value), BindsTo s fd ⟨[u], []⟩ [("_law_script", u)]) ∧ ∀ base : Heap, (K w.params).In base → base.Ns mainGlobals mg → FnOk l.prog w (K w.params) mg base CX0 23 fa fd ["_law_script"] (spLaw (K w.params))) :
    PySem.W.WalkO q loose XP YP l.row.toRowW d [] (fun f vs => PySem.call f vs) :=
  L2.walk_of (n := 63) (k := 23) (x := "_law_script") (CX := fun _ => CX0) (sp := fun w => spLaw (K w.params)) hn (by decide) hdf ⟨rfl, by decide, by decide⟩ hY F (fun _ _ a ns hl _ hS => ⟨a, ns, rfl, hS, hl, fun _ => rfl⟩) fun _ _ _ _ _ z => z
end Kx
open PySem PySem.W PyProof.Rows
set_option maxRecDepth 100000 in
set_option maxHeartbeats 0 in
theorem PySem.Challenge.cw_pairbinds_k09_whole_fewest_ties_holds : PySem.Challenge.rw_pairbinds_k09_whole_fewest_ties.Holds := by
  w_on; o_law; k_head; (case hw => w_witness2)
  k_fill
  refine Kx.walk (l := PySem.Challenge.rw_pairbinds_k09_whole_fewest_ties) rfl rfl (fun w h Y => PySem.W.kIn_of Y) ?F
  case F =>
    intro w mg fa h KX G hmg
    refine' Kx.all_mk KX G hmg ?u_Ties ?z_abs ?z_all ?z_any ?z_bool ?z_enumerate ?z_int ?z_isinstance ?z_len ?z_list ?z_range ?z_set ?z_sorted ?z_str ?z_tuple ?z_zip ?y_LETTERS ?y_MOST_LETTERS ?y_MOST_NAMES ?a1 ?l1 ?c1 ?k1 ?a2 ?l2 ?c2 ?k2 ?a3 ?l3 ?c3 ?k3 ?a4 ?l4 ?c4 ?k4 ?a5 ?l5 ?c5 ?k5 ?a6 ?l6 ?c6 ?k6 ?a7 ?l7 ?c7 ?k7 ?a8 ?l8 ?c8 ?k8 ?a9 ?l9 ?c9 ?k9 ?a10 ?l10 ?c10 ?k10 ?a11 ?l11 ?c11 ?k11 ?a12 ?l12 ?c12 ?k12 ?a13 ?l13 ?c13 ?k13 ?a14 ?l14 ?c14 ?k14 ?a15 ?l15 ?c15 ?k15 ?t15 ?v15 ?d102_36h ?d102_36t ?d102_36z ?d102_36v ?a16 ?l16 ?c16 ?k16 ?a17 ?l17 ?c17 ?k17 ?a18 ?l18 ?c18 ?k18 ?a19 ?l19 ?c19 ?k19 ?a20 ?l20 ?c20 ?k20 ?cl1_Ties ?cl2_Ties ?cl3_Ties ?cl4_Ties ?mk1_Ties ?mk2_Ties ?mk3_Ties ?me2_Ties__follows ?me2_Ties_needed ?me2_Ties_pairs ?na_Ties__held ?na_Ties_names
    (case u_Ties => k_is)
    (case z_abs => k_is)
    (case z_all => k_is)
    (case z_any => k_is)
    (case z_bool => k_is)
    (case z_enumerate => k_is)
    (case z_int => k_is)
    (case z_isinstance => k_is)
    (case z_len => k_is)
    (case z_list => k_is)
    (case z_range => k_is)
    (case z_set => k_is)
    (case z_sorted => k_is)
    (case z_str => k_is)
    (case z_tuple => k_is)
    (case z_zip => k_is)
    (case y_LETTERS => k_is)
    (case y_MOST_LETTERS => k_is)
    (case y_MOST_NAMES => k_is)
    (case a1 => k_is)
    (case l1 => k_is)
    (case c1 => k_is)
    (case k1 => k_is)
    (case a2 => k_is)
    (case l2 => k_is)
    (case c2 => k_is)
    (case k2 => k_is)
    (case a3 => k_is)
    (case l3 => k_is)
    (case c3 => k_is)
    (case k3 => k_is)
    (case a4 => k_is)
    (case l4 => k_is)
    (case c4 => k_is)
    (case k4 => k_is)
    (case a5 => k_is)
    (case l5 => k_is)
    (case c5 => k_is)
    (case k5 => k_is)
    (case a6 => k_is)
    (case l6 => k_is)
    (case c6 => k_is)
    (case k6 => k_is)
    (case a7 => k_is)
    (case l7 => k_is)
    (case c7 => k_is)
    (case k7 => k_is)
    (case a8 => k_is)
    (case l8 => k_is)
    (case c8 => k_is)
    (case k8 => k_is)
    (case a9 => k_is)
    (case l9 => k_is)
    (case c9 => k_is)
    (case k9 => k_is)
    (case a10 => k_is)
    (case l10 => k_is)
    (case c10 => k_is)
    (case k10 => k_is)
    (case a11 => k_is)
    (case l11 => k_is)
    (case c11 => k_is)
    (case k11 => k_is)
    (case a12 => k_is)
    (case l12 => k_is)
    (case c12 => k_is)
    (case k12 => k_is)
    (case a13 => k_is)
    (case l13 => k_is)
    (case c13 => k_is)
    (case k13 => k_is)
    (case a14 => k_is)
    (case l14 => k_is)
    (case c14 => k_is)
    (case k14 => k_is)
    (case a15 => k_is)
    (case l15 => k_is)
    (case c15 => k_is)
    (case k15 => k_is)
    (case t15 => k_is)
    (case v15 => (refine .cons (by first | rfl | exact ⟨_, rfl⟩) ?_; exact .nil))
    (case d102_36h => k_is)
    (case d102_36t => rfl)
    (case d102_36z => decide)
    (case d102_36v => exact .nil)
    (case a16 => k_is)
    (case l16 => k_is)
    (case c16 => k_is)
    (case k16 => k_is)
    (case a17 => k_is)
    (case l17 => k_is)
    (case c17 => k_is)
    (case k17 => k_is)
    (case a18 => k_is)
    (case l18 => k_is)
    (case c18 => k_is)
    (case k18 => k_is)
    (case a19 => k_is)
    (case l19 => k_is)
    (case c19 => k_is)
    (case k19 => k_is)
    (case a20 => k_is)
    (case l20 => k_is)
    (case c20 => k_is)
    (case k20 => k_is)
    (case cl1_Ties => k_is)
    (case cl2_Ties => k_is)
    (case cl3_Ties => k_is)
    (case cl4_Ties => k_is)
    (case mk1_Ties => k_is)
    (case mk2_Ties => k_is)
    (case mk3_Ties => k_is)
    (case me2_Ties__follows => k_is)
    (case me2_Ties_needed => k_is)
    (case me2_Ties_pairs => k_is)
    (case na_Ties__held => k_is)
    (case na_Ties_names => k_is)
#print axioms PySem.Challenge.cw_pairbinds_k09_whole_fewest_ties_holds
