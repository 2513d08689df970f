import PyProof.Rows.All
import HandS.ForMost
import HandS.ForExc
import HandS.CallSlots
import HandS.ExcInit
import HandS.TryMany
import HandS.Wide
import HandS.WideBits
import HandS.TupAny
import HandS.TupLe
import HandS.TupMul
import HandS.Conv
import HandS.SortRule
import HandS.SortInts
import HandS.IsInst
import HandS.Flow
import HandS.Style
import HandS.RevTup
import HandS.AnyAll
import HandS.Deep
import HandS.More
import HandS.GenList
import HandS.EndOwn
import HandS.Star
import HandS.NoneIn
import HandS.Dict
import KE.GoesEnum
import HandS.Defaults
import KE.KExcIs
import HandS.ExcIs
import HandS.ExcField
import HandS.WordsExc
import HandS.ExcOwn
import HandS.SetFor
import HandS.Iter
import HandS.TryOnly
import HandS.TupSets
import KE.SortCalls
import KE.KTupSum
import KE.DataAny
import PySem.Challenge.RW_strikecore_k56_euler_beside_and_product
set_option Elab.async false
set_option linter.all false
set_option maxRecDepth 100000
set_option maxHeartbeats 3900000
/-! Z1: deep values over the layer's heaps; readings told by functions. -/
namespace Z
open PySem L2
open PySem.Spec PyProof.Rows

/-- the tables of code objects that may grow -/
class Tabs where
  ad : List Addr
  /-- where the class of this name lies -/
  cls : Str → Addr
/-- a deep value: ptr n is the n-th mutable object of the store; lst, tup never change any more -/
inductive D where
  | non | bl (b : Bool) | int (i : Int) | str (x : Str)
  | tup (xs : List D) | lst (xs : List D) | ptr (n : Nat) | rol (ns : List Int) | rng (lo hi : Int) | ty (n : String) | rot (xs : List D) | dct (ks : List L2.Key) (xs : List D)

/-- a mutable object's content -/
inductive C where
  | lst (xs : List D) | gone | dct (ks : List L2.Key) (xs : List D)
  /-- a dict whose keys are tuples; lk: it is being walked -/
  | dtt (lk : Bool) (ks : List (List L2.Key)) (xs : List D)
  /-- an instance of the class nm, its fields -/
  | obj (nm : Str) (ks : List Str) (xs : List D)
abbrev Sto := List C
abbrev En := List (Option D)

mutual
def Rep (K : PySem.W.Frag) (Hc : Hp) (m : List Addr) : D → V → Prop
  | .non, v => v = .non
  | .bl b, v => v = .bl b
  | .int i, v => v = .int i
  | .str x, v => v = .str x
  | .tup ds, v => ∃ a vs, v = .ref a ∧ Hc a = some (.tup vs) ∧ Reps K Hc m ds vs
  | .rot ds, v => ∃ a vs, v = .ref a ∧ SqT K Hc a vs ∧ Reps K Hc m ds vs
  | .ty n, v => v = .ty n
  | .lst ds, v => ∃ a vs, v = .ref a ∧ Hc a = some (.lst vs) ∧ Reps K Hc m ds vs
  | .ptr n, v => ∃ a, v = .ref a ∧ m[n]? = some a
  | .rol ns, v => ∃ a, v = .ref a ∧ SqL K Hc a (ns.map V.int)
  | .rng lo hi, v => ∃ a, v = .ref a ∧ Hc a = some (.rng lo hi)
  | .dct ks ds, v => ∃ a vs, v = .ref a ∧ Hc a = some (.dK (ks.zip vs)) ∧ ks.length = ds.length ∧ Reps K Hc m ds vs
def Reps (K : PySem.W.Frag) (Hc : Hp) (m : List Addr) : List D → List V → Prop
  | [], vs => vs = []
  | d :: ds, vs => ∃ v r, vs = v :: r ∧ Rep K Hc m d v ∧ Reps K Hc m ds r
end

/-- the heaps grow -/
structure Ex (m : List Addr) (Hc : Hp) (m' : List Addr) (Hc' : Hp) : Prop where
  pre : ∃ l, m' = m ++ l
  sub : Same Hc Hc'
theorem Ex.refl (m : List Addr) (Hc : Hp) : Ex m Hc m Hc := ⟨⟨[], by simp⟩, Same.refl _⟩
theorem Ex.trans {m m1 m2 : List Addr} {Hc H1 H2 : Hp} (a : Ex m Hc m1 H1) (b : Ex m1 H1 m2 H2) : Ex m Hc m2 H2 := by
  obtain ⟨⟨l, rfl⟩, s⟩ := a
  obtain ⟨⟨l2, rfl⟩, s2⟩ := b
  exact ⟨⟨l ++ l2, by simp⟩, s.trans s2⟩
theorem Ex.get {m m' : List Addr} {Hc Hc' : Hp} (a : Ex m Hc m' Hc') {n : Nat} {x : Addr} (h : m[n]? = some x) : m'[n]? = some x := by
  obtain ⟨⟨l, rfl⟩, _⟩ := a
  rw [List.getElem?_append_left (List.getElem?_eq_some_iff.mp h).1]
  exact h
theorem Same.tupT {K : PySem.W.Frag} {H H' : Hp} {a : Addr} {xs : List V} (e : Same H H') (h : SqT K H a xs) : SqT K H' a xs := by
  exact h.imp (Or.imp (e _ _) fun ⟨o, q⟩ => ⟨o, e _ _ q⟩) id
mutual
theorem Rep.mono {K : PySem.W.Frag} {Hc Hc' : Hp} {m m' : List Addr} (x : Ex m Hc m' Hc') : ∀ (d : D) (v : V), Rep K Hc m d v → Rep K Hc' m' d v
  | .non, _, h => h
  | .bl _, _, h => h
  | .int _, _, h => h
  | .str _, _, h => h
  | .tup ds, v, ⟨a, vs, e, q, r⟩ => ⟨a, vs, e, x.sub _ _ q, Reps.mono x ds vs r⟩
  | .rot ds, v, ⟨a, vs, e, q, r⟩ => ⟨a, vs, e, Same.tupT x.sub q, Reps.mono x ds vs r⟩
  | .ty _, _, h => h
  | .lst ds, v, ⟨a, vs, e, q, r⟩ => ⟨a, vs, e, x.sub _ _ q, Reps.mono x ds vs r⟩
  | .ptr n, v, ⟨a, e, q⟩ => ⟨a, e, x.get q⟩
  | .rol ns, v, ⟨a, e, q⟩ => ⟨a, e, x.sub.seq q⟩
  | .rng _ _, v, ⟨a, e, q⟩ => ⟨a, e, x.sub _ _ q⟩
  | .dct _ ds, v, ⟨a, vs, e, q, l, r⟩ => ⟨a, vs, e, x.sub _ _ q, l, Reps.mono x ds vs r⟩
theorem Reps.mono {K : PySem.W.Frag} {Hc Hc' : Hp} {m m' : List Addr} (x : Ex m Hc m' Hc') : ∀ (ds : List D) (vs : List V), Reps K Hc m ds vs → Reps K Hc' m' ds vs
  | [], _, h => h
  | d :: ds, vs, ⟨v, r, e, h1, h2⟩ => ⟨v, r, e, Rep.mono x d v h1, Reps.mono x ds r h2⟩
end
section
variable {K : PySem.W.Frag} {Hc : Hp} {m : List Addr}
theorem Reps.length : ∀ {ds : List D} {vs : List V}, Reps K Hc m ds vs → vs.length = ds.length
  | [], _, h => by cases h; rfl
  | d :: ds, _, ⟨v, r, e, _, h2⟩ => by subst e; simp [Reps.length h2]
theorem Reps.get : ∀ {ds : List D} {vs : List V} {i : Nat} {d : D}, Reps K Hc m ds vs → ds[i]? = some d → ∃ v, vs[i]? = some v ∧ Rep K Hc m d v
  | [], _, _, _, _, e => by simp at e
  | d :: ds, _, 0, _, ⟨v, r, e, h1, _⟩, h => by simp at h; subst h; subst e; exact ⟨v, rfl, h1⟩
  | d :: ds, _, i + 1, _, ⟨v, r, e, _, h2⟩, h => by
    subst e
    obtain ⟨w, p, q⟩ := Reps.get (i := i) h2 (by simpa using h)
    exact ⟨w, by simpa using p, q⟩
theorem Reps.append : ∀ {ds es : List D} {vs ws : List V}, Reps K Hc m ds vs → Reps K Hc m es ws → Reps K Hc m (ds ++ es) (vs ++ ws)
  | [], _, _, _, h, h' => by cases h; exact h'
  | d :: ds, _, _, _, ⟨v, r, e, h1, h2⟩, h' => by subst e; exact ⟨v, _, rfl, h1, Reps.append h2 h'⟩
theorem Reps.one {d : D} {v : V} (h : Rep K Hc m d v) : Reps K Hc m [d] [v] := ⟨v, [], rfl, h, rfl⟩
theorem Reps.take : ∀ {ds : List D} {vs : List V} (n : Nat), Reps K Hc m ds vs → Reps K Hc m (ds.take n) (vs.take n)
  | _, _, 0, _ => by simp [Reps]
  | [], _, n + 1, h => by cases h; rfl
  | d :: ds, _, n + 1, ⟨v, r, e, h1, h2⟩ => by subst e; exact ⟨v, _, rfl, h1, Reps.take n h2⟩
theorem Reps.drop : ∀ {ds : List D} {vs : List V} (n : Nat), Reps K Hc m ds vs → Reps K Hc m (ds.drop n) (vs.drop n)
  | _, _, 0, h => h
  | [], _, n + 1, h => by cases h; rfl
  | d :: ds, _, n + 1, ⟨v, r, e, h1, h2⟩ => by subst e; exact Reps.drop n h2
theorem Reps.set : ∀ {ds : List D} {vs : List V} (n : Nat) {d : D} {v : V}, Reps K Hc m ds vs → Rep K Hc m d v → Reps K Hc m (ds.set n d) (vs.set n v)
  | [], _, n, _, _, h, _ => by cases h; rfl
  | d :: ds, _, 0, _, _, ⟨v, r, e, h1, h2⟩, h => by subst e; exact ⟨_, _, rfl, h, h2⟩
  | d :: ds, _, n + 1, _, _, ⟨v, r, e, h1, h2⟩, h => by subst e; exact ⟨v, _, rfl, h1, Reps.set n h2 h⟩
theorem Reps.eraseIdx : ∀ {ds : List D} {vs : List V} (n : Nat), Reps K Hc m ds vs → Reps K Hc m (ds.eraseIdx n) (vs.eraseIdx n)
  | [], _, n, h => by cases h; rfl
  | d :: ds, _, 0, ⟨v, r, e, h1, h2⟩ => by subst e; exact h2
  | d :: ds, _, n + 1, ⟨v, r, e, h1, h2⟩ => by subst e; exact ⟨v, _, rfl, h1, Reps.eraseIdx n h2⟩
theorem Reps.ints : ∀ {ns : List Int} {vs : List V}, Reps K Hc m (ns.map D.int) vs → vs = ns.map V.int
  | [], _, h => h
  | n :: ns, _, ⟨v, r, e, h1, h2⟩ => by cases h1; rw [e, Reps.ints h2]; rfl
theorem reps_ints : ∀ (ns : List Int), Reps K Hc m (ns.map D.int) (ns.map V.int)
  | [] => rfl
  | n :: ns => ⟨_, _, rfl, rfl, reps_ints ns⟩
end

/-- no tuple -/
def NT (o : HO) : Prop := ∀ us, o ≠ .tup us
/-- a mutable object as it lies -/
def COk [Tabs] (K : PySem.W.Frag) (Hc : Hp) (m : List Addr) (H : Hp) (a : Addr) : C → Prop
  | .lst ds => Hc a = none ∧ ∃ vs, H a = some (.lst vs) ∧ Reps K Hc m ds vs
  | .gone => ∃ o, H a = some o ∧ NT o
  | .dct ks ds => Hc a = none ∧ ∃ vs, H a = some (.dK (ks.zip vs)) ∧ ks.length = ds.length ∧ Reps K Hc m ds vs
  | .dtt false ks ds => Hc a = none ∧ ∃ vs, H a = some (.dT (ks.zip vs)) ∧ ks.length = ds.length ∧ Reps K Hc m ds vs
  | .dtt true ks ds => ∃ od vs, Hc a = some (.frz od (.dT (ks.zip vs))) ∧ ks.length = ds.length ∧ Reps K Hc m ds vs
  | .obj nm ks ds => Hc a = none ∧ ∃ dx vs, H a = some (.ins (Tabs.cls nm) dx (ks.zip vs)) ∧ ks.length = ds.length ∧ Reps K Hc m ds vs
variable [Tabs]
abbrev TabAt (fr : List (Addr × HO)) (m : List Addr) (Hc H : Hp) (P : Addr) : Prop := GxR.TabG H P ∧ Hc P = none ∧ P ∉ m ∧ ∀ p ∈ fr, p.1 ≠ P
theorem TabAt.ne_none {fr m Hc H P} (h : TabAt fr m Hc H P) {p : Addr} (hp : H p = none) : P ≠ p := fun e => by
  obtain ⟨⟨ps, q, _⟩, _⟩ := h
  rw [e, hp] at q; cases q
theorem TabAt.ne_m {fr m Hc H P} (h : TabAt fr m Hc H P) {n : Nat} {a : Addr} (hn : m[n]? = some a) : P ≠ a := fun e => h.2.2.1 (e ▸ List.mem_of_getElem? hn)
theorem TabG.upd {H : Hp} {P p : Addr} {o : HO} (h : GxR.TabG H P) (n : P ≠ p) : GxR.TabG (upd H p o) P := by
  obtain ⟨ps, q, r⟩ := h
  exact ⟨ps, by rw [upd_ne n]; exact q, r⟩
structure Zh (K : PySem.W.Frag) (fr : List (Addr × HO)) (m : List Addr) (Hc : Hp) (S : Sto) (H : Hp) : Prop where
  sub : Same Hc H
  len : m.length = S.length
  nd : m.Nodup
  cel : ∀ (n : Nat) (a : Addr) (c : C), m[n]? = some a → S[n]? = some c → COk K Hc m H a c
  frm : ∀ p ∈ fr, H p.1 = some p.2 ∧ Hc p.1 = none ∧ p.1 ∉ m
  fnd : (fr.map Prod.fst).Nodup
  nt : ∀ p ∈ fr, NT p.2
  tab : ∀ P ∈ Tabs.ad, TabAt fr m Hc H P
/-- what more the locals may have to keep: the error that an except suite holds -/
class Hot where
  ok : Hp → List Addr → L2.St → Prop
  free : Nat → Prop
  mono : ∀ {m m' : List Addr} {Hc Hc' : Hp} {σ : L2.St}, Ex m Hc m' Hc' → ok Hc m σ → ok Hc' m' σ
  put : ∀ {m : List Addr} {Hc : Hp} {σ : L2.St} {i : Nat} {o : Option V}, free i → ok Hc m σ → ok Hc m (σ.set i o)
instance hot0 : Hot := ⟨fun _ _ _ => True, fun _ => True, fun _ _ => trivial, fun _ _ => trivial⟩
structure Ze [Hot] (K : PySem.W.Frag) (Hc : Hp) (m : List Addr) (env : En) (σ : L2.St) : Prop where
  len : env.length = σ.length
  at_ : ∀ (i : Nat) (d : D), env[i]? = some (some d) → ∃ v : V, (σ : List (Option V))[i]? = some (some v) ∧ Rep K Hc m d v
  hot : Hot.ok Hc m σ := by exact trivial
section
variable {K : PySem.W.Frag} {fr : List (Addr × HO)} {m m' : List Addr} {Hc Hc' : Hp} {S : Sto} {H : Hp} {env : En} {σ : L2.St}
theorem Zh.there (z : Zh K fr m Hc S H) {a : Addr} (h : a ∈ m) : H a ≠ none := by
  obtain ⟨n, hn⟩ := List.getElem?_of_mem h
  have hl : n < S.length := by rw [← z.len]; exact (List.getElem?_eq_some_iff.mp hn).1
  have q := z.cel n a S[n] hn (List.getElem?_eq_getElem hl)
  cases e : S[n] with
  | lst ds => rw [e] at q; obtain ⟨_, vs, h1, _⟩ := q; rw [h1]; simp
  | gone => rw [e] at q; obtain ⟨o, h1, _⟩ := q; rw [h1]; simp
  | dct ks ds => rw [e] at q; obtain ⟨_, vs, h1, _⟩ := q; rw [h1]; simp
  | dtt lk ks ds => cases lk <;> rw [e] at q
                    · obtain ⟨_, vs, h1, _⟩ := q; rw [h1]; simp
                    · obtain ⟨od, vs, h1, _⟩ := q; rw [z.sub _ _ h1]; simp
  | obj nm ks ds => rw [e] at q; obtain ⟨_, dx, vs, h1, _⟩ := q; rw [h1]; simp
theorem Ze.mono [Hot] (x : Ex m Hc m' Hc') (z : Ze K Hc m env σ) : Ze K Hc' m' env σ :=
  ⟨z.len, fun i d e => let ⟨v, h1, h2⟩ := z.at_ i d e; ⟨v, h1, Rep.mono x d v h2⟩, Hot.mono x z.hot⟩
theorem Ze.set [Hot] (z : Ze K Hc m env σ) (i : Nat) {d : D} {v : V} (r : Rep K Hc m d v) (hf : Hot.free i := by exact trivial) : Ze K Hc m (env.set i (some d)) (σ.set i (some v)) := by
  refine ⟨by simp [z.len], fun j e h => ?_, Hot.put hf z.hot⟩
  by_cases hj : i = j
  · subst hj
    have hl : i < env.length := by
      have := (List.getElem?_eq_some_iff.mp h).1
      simpa using this
    rw [List.getElem?_set_self hl] at h
    cases h
    exact ⟨v, by rw [List.getElem?_set_self (by rw [← z.len]; exact hl)], r⟩
  · rw [List.getElem?_set_ne hj] at h
    obtain ⟨w, h1, h2⟩ := z.at_ j e h
    exact ⟨w, by rw [List.getElem?_set_ne hj]; exact h1, h2⟩
theorem Ze.unset [Hot] (z : Ze K Hc m env σ) (i : Nat) (hf : Hot.free i := by exact trivial) : Ze K Hc m (env.set i none) (σ.set i none) := by
  refine ⟨by simp [z.len], fun j e h => ?_, Hot.put hf z.hot⟩
  by_cases hj : i = j
  · subst hj
    by_cases hl : i < env.length
    · rw [List.getElem?_set_self hl] at h; cases h
    · rw [List.getElem?_eq_none (by simpa using hl)] at h; cases h
  · rw [List.getElem?_set_ne hj] at h
    obtain ⟨w, h1, h2⟩ := z.at_ j e h
    exact ⟨w, by rw [List.getElem?_set_ne hj]; exact h1, h2⟩
theorem COk.mono (x : Ex m Hc m' Hc') {a : Addr} {H' : Hp} (hc : Hc' a = none ∨ ∃ o, Hc a = some o) (hH : H' a = H a) : ∀ {c : C}, COk K Hc m H a c → COk K Hc' m' H' a c
  | .lst ds, ⟨h0, vs, h1, h2⟩ => by
    refine ⟨?_, vs, by rw [hH]; exact h1, Reps.mono x ds vs h2⟩
    rcases hc with h | ⟨o, h⟩
    · exact h
    · rw [h] at h0; cases h0
  | .gone, h => by show ∃ o, H' a = some o ∧ NT o; rw [hH]; exact h
  | .dtt false ks ds, ⟨h0, vs, h1, h2, h3⟩ => by
    refine ⟨?_, vs, by rw [hH]; exact h1, h2, Reps.mono x ds vs h3⟩
    rcases hc with h | ⟨o, h⟩
    · exact h
    · rw [h] at h0; cases h0
  | .dtt true ks ds, ⟨od, vs, h1, h2, h3⟩ => ⟨od, vs, x.sub _ _ h1, h2, Reps.mono x ds vs h3⟩
  | .obj nm ks ds, ⟨h0, dx, vs, h1, h2, h3⟩ => by
    refine ⟨?_, dx, vs, by rw [hH]; exact h1, h2, Reps.mono x ds vs h3⟩
    rcases hc with h | ⟨o, h⟩
    · exact h
    · rw [h] at h0; cases h0
  | .dct ks ds, ⟨h0, vs, h1, h2, h3⟩ => by
    refine ⟨?_, vs, by rw [hH]; exact h1, h2, Reps.mono x ds vs h3⟩
    rcases hc with h | ⟨o, h⟩
    · exact h
    · rw [h] at h0; cases h0
/-- a new object goes into the core -/
theorem Zh.new (z : Zh K fr m Hc S H) {p : Addr} {o : HO} (hp : H p = none) : Zh K fr m (upd Hc p o) S (upd H p o) ∧ Ex m Hc m (upd Hc p o) := by
  have hc : Hc p = none := z.sub.free hp
  have x : Ex m Hc m (upd Hc p o) := ⟨⟨[], by simp⟩, fun b u e => by rw [upd_ne (ne_of_none e hc)]; exact e⟩
  refine ⟨⟨fun b u e => ?_, z.len, z.nd, fun n a c h1 h2 => ?_, fun q hq => ?_, z.fnd, z.nt, fun P hP => let h := z.tab P hP; ⟨TabG.upd h.1 (h.ne_none hp), by rw [upd_ne (h.ne_none hp)]; exact h.2.1, h.2.2⟩⟩, x⟩
  · by_cases hb : b = p
    · subst hb; rw [upd_same] at e ⊢; exact e
    · rw [upd_ne hb] at e ⊢; exact z.sub b u e
  · have na : a ≠ p := fun e => z.there (List.mem_of_getElem? h1) (by rw [e]; exact hp)
    have q := z.cel n a c h1 h2
    refine COk.mono x ?_ (upd_ne na) q
    cases e : Hc a with
    | none => exact .inl (by rw [upd_ne na]; exact e)
    | some u => exact .inr ⟨u, rfl⟩
  · obtain ⟨h1, h2, h3⟩ := z.frm q hq
    have nq : q.1 ≠ p := ne_of_none h1 hp
    exact ⟨by rw [upd_ne nq]; exact h1, by rw [upd_ne nq]; exact h2, h3⟩
/-- a new mutable list -/
theorem Zh.newC (z : Zh K fr m Hc S H) {p : Addr} {ds : List D} {vs : List V} (hp : H p = none) (r : Reps K Hc m ds vs) :
    Zh K fr (m ++ [p]) Hc (S ++ [.lst ds]) (upd H p (.lst vs)) ∧ Ex m Hc (m ++ [p]) Hc := by
  have hc : Hc p = none := z.sub.free hp
  have x : Ex m Hc (m ++ [p]) Hc := ⟨⟨[p], rfl⟩, Same.refl _⟩
  have pm : p ∉ m := fun h => z.there h hp
  refine ⟨⟨fun b u e => ?_, by simp [z.len], ?_, fun n a c h1 h2 => ?_, fun q hq => ?_, z.fnd, z.nt, fun P hP => let h := z.tab P hP; ⟨TabG.upd h.1 (h.ne_none hp), h.2.1, fun hm => (List.mem_append.mp hm).elim h.2.2.1 fun e => h.ne_none hp (by simpa using e), h.2.2.2⟩⟩, x⟩
  · rw [upd_ne (ne_of_none e hc)]; exact z.sub b u e
  · rw [List.nodup_append]
    refine ⟨z.nd, by simp, fun a ha b hb e => ?_⟩
    have : b = p := by simpa using hb
    subst this; subst e
    exact pm ha
  · by_cases hn : n < m.length
    · rw [List.getElem?_append_left hn] at h1
      rw [List.getElem?_append_left (by rw [← z.len]; exact hn)] at h2
      have na : a ≠ p := fun e => pm (e ▸ List.mem_of_getElem? h1)
      refine COk.mono x ?_ (upd_ne na) (z.cel n a c h1 h2)
      cases e : Hc a with
      | none => exact .inl rfl
      | some u => exact .inr ⟨u, rfl⟩
    · have hle : m.length ≤ n := Nat.le_of_not_lt hn
      rw [List.getElem?_append_right hle] at h1
      rw [List.getElem?_append_right (by rw [← z.len]; exact hle)] at h2
      have e0 : n - m.length = 0 := by
        cases e : n - m.length with
        | zero => rfl
        | succ k => rw [e] at h1; simp at h1
      rw [e0] at h1
      rw [← z.len, e0] at h2
      simp at h1 h2
      subst h1; subst h2
      exact ⟨hc, vs, upd_same, Reps.mono x ds vs r⟩
  · obtain ⟨h1, h2, h3⟩ := z.frm q hq
    refine ⟨by rw [upd_ne (ne_of_none h1 hp)]; exact h1, h2, fun hm => ?_⟩
    rcases List.mem_append.mp hm with h | h
    · exact h3 h
    · have : q.1 = p := by simpa using h
      rw [this, hp] at h1; cases h1
theorem nd_ix {m : List Addr} (hN : m.Nodup) {i j : Nat} {x : Addr} (a : m[i]? = some x) (b : m[j]? = some x) : i = j := by
  exact (List.getElem?_inj (List.getElem?_eq_some_iff.mp a).1 hN).mp (a.trans b.symm)
/-- a mutable list is changed -/
theorem Zh.wr (z : Zh K fr m Hc S H) {n : Nat} {a : Addr} {ds es : List D} {vs : List V} (hn : m[n]? = some a) (hs : S[n]? = some (.lst ds)) (r : Reps K Hc m es vs) :
    Zh K fr m Hc (S.set n (.lst es)) (upd H a (.lst vs)) := by
  obtain ⟨hc, ws, hH, _⟩ := z.cel n a _ hn hs
  have x := Ex.refl m Hc
  refine ⟨fun b u e => ?_, by simp [z.len], z.nd, fun k b c h1 h2 => ?_, fun q hq => ?_, z.fnd, z.nt, fun P hP => let h := z.tab P hP; ⟨TabG.upd h.1 (h.ne_m hn), h.2⟩⟩
  · rw [upd_ne (ne_of_none e hc)]; exact z.sub b u e
  · by_cases hk : n = k
    · subst hk
      have eab : b = a := Option.some.inj (h1.symm.trans hn)
      subst eab
      have hl : n < S.length := (List.getElem?_eq_some_iff.mp hs).1
      rw [List.getElem?_set_self hl] at h2
      cases h2
      exact ⟨hc, vs, upd_same, r⟩
    · rw [List.getElem?_set_ne hk] at h2
      have na : b ≠ a := fun e => hk (nd_ix z.nd hn (e ▸ h1))
      refine COk.mono x ?_ (upd_ne na) (z.cel k b c h1 h2)
      cases e : Hc b with
      | none => exact .inl rfl
      | some u => exact .inr ⟨u, rfl⟩
  · obtain ⟨h1, h2, h3⟩ := z.frm q hq
    have nq : q.1 ≠ a := fun e => h3 (e ▸ List.mem_of_getElem? hn)
    exact ⟨by rw [upd_ne nq]; exact h1, h2, h3⟩
/-- a mutable list will not change any more -/
theorem Zh.freeze (z : Zh K fr m Hc S H) {n : Nat} {a : Addr} {ds : List D} (hn : m[n]? = some a) (hs : S[n]? = some (.lst ds)) :
    ∃ Hc', Zh K fr m Hc' (S.set n .gone) H ∧ Ex m Hc m Hc' ∧ Rep K Hc' m (.lst ds) (.ref a) := by
  obtain ⟨hc, ws, hH, hr⟩ := z.cel n a _ hn hs
  have x : Ex m Hc m (upd Hc a (.lst ws)) := ⟨⟨[], by simp⟩, fun b u e => by rw [upd_ne (ne_of_none e hc)]; exact e⟩
  refine ⟨upd Hc a (.lst ws), ⟨fun b u e => ?_, by simp [z.len], z.nd, fun k b c h1 h2 => ?_, fun q hq => ?_, z.fnd, z.nt, fun P hP => let h := z.tab P hP; ⟨h.1, by rw [upd_ne (h.ne_m hn)]; exact h.2.1, h.2.2⟩⟩, x, a, ws, rfl, upd_same, Reps.mono x _ _ hr⟩
  · by_cases hb : b = a
    · subst hb; rw [upd_same] at e; rw [hH]; exact e
    · rw [upd_ne hb] at e; exact z.sub b u e
  · by_cases hk : n = k
    · subst hk
      have eab : b = a := Option.some.inj (h1.symm.trans hn)
      subst eab
      have hl : n < S.length := (List.getElem?_eq_some_iff.mp hs).1
      rw [List.getElem?_set_self hl] at h2
      cases h2
      exact ⟨_, hH, fun us e => nomatch e⟩
    · rw [List.getElem?_set_ne hk] at h2
      have na : b ≠ a := fun e => hk (nd_ix z.nd hn (e ▸ h1))
      refine COk.mono x ?_ rfl (z.cel k b c h1 h2)
      cases e : Hc b with
      | none => exact .inl (by rw [upd_ne na]; exact e)
      | some u => exact .inr ⟨u, rfl⟩
  · obtain ⟨h1, h2, h3⟩ := z.frm q hq
    have nq : q.1 ≠ a := fun e => h3 (e ▸ List.mem_of_getElem? hn)
    exact ⟨h1, by rw [upd_ne nq]; exact h2, h3⟩
/-- an object that others leave alone -/
theorem Zh.frame (z : Zh K fr m Hc S H) {p : Addr} {o : HO} (hp : H p = none) (hnt : NT o := by exact fun _ e => nomatch e) : Zh K ((p, o) :: fr) m Hc S (upd H p o) := by
  have hc : Hc p = none := z.sub.free hp
  have pm : p ∉ m := fun h => z.there h hp
  refine ⟨fun b u e => ?_, z.len, z.nd, fun n a c h1 h2 => ?_, fun q hq => ?_, ?_, fun q hq => (List.mem_cons.mp hq).elim (fun e => by rw [e]; exact hnt) (z.nt q), fun P hP => let h := z.tab P hP; ⟨TabG.upd h.1 (h.ne_none hp), h.2.1, h.2.2.1, fun q hq => (List.mem_cons.mp hq).elim (fun e => by rw [e]; exact Ne.symm (h.ne_none hp)) (h.2.2.2 q)⟩⟩
  · rw [upd_ne (ne_of_none e hc)]; exact z.sub b u e
  · have na : a ≠ p := fun e => pm (e ▸ List.mem_of_getElem? h1)
    refine COk.mono (Ex.refl m Hc) ?_ (upd_ne na) (z.cel n a c h1 h2)
    cases e : Hc a with
    | none => exact .inl rfl
    | some u => exact .inr ⟨u, rfl⟩
  · rcases List.mem_cons.mp hq with e | hq
    · subst e; exact ⟨upd_same, hc, pm⟩
    · obtain ⟨h1, h2, h3⟩ := z.frm q hq
      exact ⟨by rw [upd_ne (ne_of_none h1 hp)]; exact h1, h2, h3⟩
  · rw [List.map_cons, List.nodup_cons]
    refine ⟨fun h => ?_, z.fnd⟩
    obtain ⟨q, hq, e⟩ := List.mem_map.mp h
    have := (z.frm q hq).1
    rw [e] at this
    rw [hp] at this; cases this
theorem Zh.reframe {p : Addr} {o o' : HO} (z : Zh K ((p, o) :: fr) m Hc S H) (hnt : NT o' := by exact fun _ e => nomatch e) : Zh K ((p, o') :: fr) m Hc S (upd H p o') := by
  obtain ⟨hH, hc, pm⟩ := z.frm (p, o) List.mem_cons_self
  have nd := z.fnd
  replace nd := List.nodup_cons.mp nd
  refine ⟨fun b u e => ?_, z.len, z.nd, fun n a c h1 h2 => ?_, fun q hq => ?_, ?_, fun q hq => (List.mem_cons.mp hq).elim (fun e => by rw [e]; exact hnt) (fun h => z.nt q (List.mem_cons_of_mem _ h)), fun P hP => let h := z.tab P hP; have np : P ≠ p := Ne.symm (h.2.2.2 (p, o) List.mem_cons_self); ⟨TabG.upd h.1 np, h.2.1, h.2.2.1, fun q hq => (List.mem_cons.mp hq).elim (fun e => by rw [e]; exact Ne.symm np) fun z => h.2.2.2 q (List.mem_cons_of_mem _ z)⟩⟩
  · rw [upd_ne (ne_of_none e hc)]; exact z.sub b u e
  · have na : a ≠ p := fun e => pm (e ▸ List.mem_of_getElem? h1)
    refine COk.mono (Ex.refl m Hc) ?_ (upd_ne na) (z.cel n a c h1 h2)
    cases e : Hc a with
    | none => exact .inl rfl
    | some u => exact .inr ⟨u, rfl⟩
  · rcases List.mem_cons.mp hq with e | hq
    · subst e; exact ⟨upd_same, hc, pm⟩
    · obtain ⟨h1, h2, h3⟩ := z.frm q (List.mem_cons_of_mem _ hq)
      have nq : q.1 ≠ p := fun e => nd.1 (List.mem_map.mpr ⟨q, hq, e⟩)
      exact ⟨by rw [upd_ne nq]; exact h1, h2, h3⟩
  · rw [List.map_cons, List.nodup_cons]; exact nd
/-- into the core -/
theorem Zh.unframe {p : Addr} {o : HO} (z : Zh K ((p, o) :: fr) m Hc S H) : Zh K fr m (upd Hc p o) S H ∧ Ex m Hc m (upd Hc p o) := by
  obtain ⟨hH, hc, pm⟩ := z.frm (p, o) List.mem_cons_self
  have nd := z.fnd
  replace nd := List.nodup_cons.mp nd
  have x : Ex m Hc m (upd Hc p o) := ⟨⟨[], by simp⟩, fun b u e => by rw [upd_ne (ne_of_none e hc)]; exact e⟩
  refine ⟨⟨fun b u e => ?_, z.len, z.nd, fun n a c h1 h2 => ?_, fun q hq => ?_, nd.2, fun p hp => z.nt p (List.mem_cons_of_mem _ hp), fun P hP => let h := z.tab P hP; have np : P ≠ p := Ne.symm (h.2.2.2 (p, o) List.mem_cons_self); ⟨h.1, by rw [upd_ne np]; exact h.2.1, h.2.2.1, fun q hq => h.2.2.2 q (List.mem_cons_of_mem _ hq)⟩⟩, x⟩
  · by_cases hb : b = p
    · subst hb; rw [upd_same] at e; rw [← e]; exact hH
    · rw [upd_ne hb] at e; exact z.sub b u e
  · have na : a ≠ p := fun e => pm (e ▸ List.mem_of_getElem? h1)
    refine COk.mono x ?_ rfl (z.cel n a c h1 h2)
    cases e : Hc a with
    | none => exact .inl (by rw [upd_ne na]; exact e)
    | some u => exact .inr ⟨u, rfl⟩
  · obtain ⟨h1, h2, h3⟩ := z.frm q (List.mem_cons_of_mem _ hq)
    have nq : q.1 ≠ p := fun e => nd.1 (List.mem_map.mpr ⟨q, hq, e⟩)
    exact ⟨h1, by rw [upd_ne nq]; exact h2, h3⟩
/-- into the store -/
theorem Zh.unframeC {p : Addr} {ds : List D} {vs : List V} (z : Zh K ((p, .lst vs) :: fr) m Hc S H) (r : Reps K Hc m ds vs) : Zh K fr (m ++ [p]) Hc (S ++ [.lst ds]) H ∧ Ex m Hc (m ++ [p]) Hc := by
  obtain ⟨hH, hc, pm⟩ := z.frm (p, .lst vs) List.mem_cons_self
  have nd := z.fnd
  replace nd := List.nodup_cons.mp nd
  have x : Ex m Hc (m ++ [p]) Hc := ⟨⟨[p], rfl⟩, Same.refl _⟩
  refine ⟨⟨z.sub, by simp [z.len], ?_, fun n a c h1 h2 => ?_, fun q hq => ?_, nd.2, fun p hp => z.nt p (List.mem_cons_of_mem _ hp), fun P hP => let h := z.tab P hP; have np : P ≠ p := Ne.symm (h.2.2.2 (p, .lst vs) List.mem_cons_self); ⟨h.1, h.2.1, fun hm => (List.mem_append.mp hm).elim h.2.2.1 fun e => np (by simpa using e), fun q hq => h.2.2.2 q (List.mem_cons_of_mem _ hq)⟩⟩, x⟩
  · rw [List.nodup_append]
    refine ⟨z.nd, by simp, fun a ha b hb e => ?_⟩
    have : b = p := by simpa using hb
    subst this; subst e
    exact pm ha
  · by_cases hn : n < m.length
    · rw [List.getElem?_append_left hn] at h1
      rw [List.getElem?_append_left (by rw [← z.len]; exact hn)] at h2
      refine COk.mono x ?_ rfl (z.cel n a c h1 h2)
      cases e : Hc a with
      | none => exact .inl rfl
      | some u => exact .inr ⟨u, rfl⟩
    · have hle : m.length ≤ n := Nat.le_of_not_lt hn
      rw [List.getElem?_append_right hle] at h1
      rw [List.getElem?_append_right (by rw [← z.len]; exact hle)] at h2
      have e0 : n - m.length = 0 := by
        cases e : n - m.length with
        | zero => rfl
        | succ k => rw [e] at h1; simp at h1
      rw [e0] at h1
      rw [← z.len, e0] at h2
      simp at h1 h2
      subst h1; subst h2
      exact ⟨hc, vs, hH, Reps.mono x ds vs r⟩
  · obtain ⟨h1, h2, h3⟩ := z.frm q (List.mem_cons_of_mem _ hq)
    have nq : q.1 ≠ p := fun e => nd.1 (List.mem_map.mpr ⟨q, hq, e⟩)
    refine ⟨h1, h2, fun hm => ?_⟩
    rcases List.mem_append.mp hm with h | h
    · exact h3 h
    · exact nq (by simpa using h)
/-- a table has grown -/
theorem Zh.tabbed {P : Addr} {H2 : Hp} (z : Zh K fr m Hc S H) (hP : P ∈ Tabs.ad) (t : GxR.Tabbed P H H2) : Zh K fr m Hc S H2 := by
  obtain ⟨tg, same⟩ := t
  have h := z.tab P hP
  refine ⟨fun b u e => ?_, z.len, z.nd, fun n a c h1 h2 => ?_, fun q hq => ?_, z.fnd, z.nt, fun P' hP' => ?_⟩
  · have nb : b ≠ P := fun q => by rw [q, h.2.1] at e; cases e
    rw [same b nb]; exact z.sub b u e
  · refine COk.mono (Ex.refl m Hc) ?_ (same a (Ne.symm (h.ne_m h1))) (z.cel n a c h1 h2)
    cases e : Hc a with
    | none => exact .inl rfl
    | some u => exact .inr ⟨u, rfl⟩
  · obtain ⟨h1, h2, h3⟩ := z.frm q hq
    exact ⟨by rw [same _ (h.2.2.2 q hq)]; exact h1, h2, h3⟩
  · have h' := z.tab P' hP'
    refine ⟨?_, h'.2⟩
    by_cases e : P' = P
    · rw [e]; exact tg
    · obtain ⟨ps, q, r⟩ := h'.1
      exact ⟨ps, by rw [same _ e]; exact q, r⟩
end
end Z

namespace Z
open PySem L2
open PySem.Spec PyProof.Rows
variable [Tabs] [Hot]

/-- an exception in the air: its class by name, its fields -/
structure XV where
  nm : Str
  fs : Option (List (Str × D))
inductive Rs (α : Type) where
  | ok (a : α) (S : Sto) | exc (e : XV) (S : Sto) | stk
def Rs.bnd {α β : Type} (r : Rs α) (k : α → Sto → Rs β) : Rs β :=
  match r with
  | .ok a S => k a S
  | .exc e S => .exc e S
  | .stk => .stk
@[simp] theorem Rs.bnd_ok {α β : Type} (a : α) (S : Sto) (k : α → Sto → Rs β) : (Rs.ok a S).bnd k = k a S := rfl
@[simp] theorem Rs.bnd_exc {α β : Type} (a : XV) (S : Sto) (k : α → Sto → Rs β) : (Rs.exc a S : Rs α).bnd k = .exc a S := rfl
@[simp] theorem Rs.bnd_stk {α β : Type} (k : α → Sto → Rs β) : (Rs.stk : Rs α).bnd k = .stk := rfl
abbrev EM (α : Type) := En → Sto → Rs α

abbrev Mg := Str → Option Value
abbrev WS := Value → Option Addr → Hp → Prop
def RepF (K : PySem.W.Frag) (Hc : Hp) (m : List Addr) : List (Str × D) → List (Str × V) → Prop
  | [], vs => vs = []
  | (n, d) :: ds, vs => ∃ v r, vs = (n, v) :: r ∧ Rep K Hc m d v ∧ RepF K Hc m ds r
def RepX (K : PySem.W.Frag) (mg : Mg) (Hc : Hp) (m : List Addr) (e : XV) (cls : Value) (od : Option Addr) (H : Hp) : Prop :=
  ∃ Ca, mg e.nm = some (.ref Ca) ∧ cls = .ref Ca ∧ match e.fs with
    | none => od = none
    | some fs => ∃ d vfs, od = some d ∧ Hc d = some (.xd vfs) ∧ RepF K Hc m fs vfs

def Pst {α β : Type} (K : PySem.W.Frag) (mg : Mg) (fr : List (Addr × HO)) (rel : Hp → List Addr → α → β → Prop) (m : List Addr) (Hc : Hp) (w : WS) (Q : β → Hp → Prop) : Rs α → Prop
  | .ok a S' => ∀ b m' Hc' H', Ex m Hc m' Hc' → Zh K fr m' Hc' S' H' → rel Hc' m' a b → Q b H'
  | .exc e S' => ∀ cls od m' Hc' H', Ex m Hc m' Hc' → Zh K fr m' Hc' S' H' → RepX K mg Hc' m' e cls od H' → w cls od H'
  | .stk => False
def rB : Hp → List Addr → Bool → Bool → Prop := fun _ _ a b => a = b

section
variable {α β γ δ : Type} {K : PySem.W.Frag} {mg : Mg} {fr : List (Addr × HO)} {rel : Hp → List Addr → α → β → Prop} {rel2 : Hp → List Addr → γ → δ → Prop} {m m' : List Addr} {Hc Hc' : Hp} {S : Sto} {H : Hp} {w : WS} {Q Q' : β → Hp → Prop}
theorem Pst.mono {r : Rs α} (x : Ex m Hc m' Hc') (h : Pst K mg fr rel m Hc w Q r) : Pst K mg fr rel m' Hc' w Q r := by
  cases r with
  | ok a S => exact fun b m2 H2 H' y z q => h b m2 H2 H' (x.trans y) z q
  | exc e S => exact fun c o m2 H2 H' y z q => h c o m2 H2 H' (x.trans y) z q
  | stk => exact h
/-- one thing after another -/
theorem Pst.bnd {r : Rs γ} {k : γ → Sto → Rs α} {T : δ → Hp → Prop} (h : Pst K mg fr rel m Hc w Q (r.bnd k))
    (hk : ∀ a S1 b m1 Hc1 H1, Ex m Hc m1 Hc1 → Zh K fr m1 Hc1 S1 H1 → rel2 Hc1 m1 a b → Pst K mg fr rel m1 Hc1 w Q (k a S1) → T b H1) : Pst K mg fr rel2 m Hc w T r := by
  cases r with
  | ok a S => exact fun b m1 H1 H' x z q => hk a S b m1 H1 H' x z q (Pst.mono x h)
  | exc e S => exact h
  | stk => exact h
theorem Pst.use {a : α} {b : β} (h : Pst K mg fr rel m Hc w Q (.ok a S)) (z : Zh K fr m Hc S H) (q : rel Hc m a b) : Q b H := h b m Hc H (Ex.refl _ _) z q
theorem Pst.useN {a : α} {b : β} (h : Pst K mg fr rel m Hc w Q (.ok a S)) {p : Addr} {o : HO} (z : Zh K fr m Hc S H) (hp : H p = none) (q : rel (upd Hc p o) m a b) : Q b (upd H p o) :=
  h b m _ _ (z.new hp).2 (z.new hp).1 q
end

/-! ### judgements -/
def SE (K : PySem.W.Frag) (mg : Mg) (W : WX) (t : TE) (f : EM D) : Prop :=
  ∀ fr m Hc env S σ H Q, Zh K fr m Hc S H → Ze K Hc m env σ → Pst K mg fr (fun Hc m d v => Rep K Hc m d v) m Hc (fun c o H => W c o σ H) Q (f env S) → t σ H Q
def SA (K : PySem.W.Frag) (mg : Mg) (W : WX) (t : TA) (f : EM (List D)) : Prop :=
  ∀ fr m Hc env S σ H Q, Zh K fr m Hc S H → Ze K Hc m env σ → Pst K mg fr (fun Hc m d v => Reps K Hc m d v) m Hc (fun c o H => W c o σ H) Q (f env S) → t σ H Q
def ST (K : PySem.W.Frag) (mg : Mg) (W : WX) (t : TT) (f : EM Bool) : Prop :=
  ∀ fr m Hc env S σ H Q, Zh K fr m Hc S H → Ze K Hc m env σ → Pst K mg fr rB m Hc (fun c o H => W c o σ H) Q (f env S) → t σ H Q
structure ZE (X : Cx) (W : WX) (e : Expr) (t : TE) (f : EM D) : Prop where
  pe : PE X e t
  sd : SE X.K X.mg W t f
def Arity (f : EM (List D)) (n : Nat) : Prop := ∀ env S xs S1, f env S = .ok xs S1 → xs.length = n
structure ZA (X : Cx) (W : WX) (es : List Expr) (t : TA) (f : EM (List D)) : Prop where
  pa : PA X es t
  sd : SA X.K X.mg W t f
  ar : Arity f es.length
structure ZT (X : Cx) (W : WX) (e : Expr) (t : TT) (f : EM Bool) : Prop where
  pt : PT X e t
  sd : ST X.K X.mg W t f
structure ZW (X : Cx) (W : WX) (e : Expr) (t : TT) (f : EM Bool) : Prop where
  pw : PW X e t
  sd : ST X.K X.mg W t f
theorem ZW.zt {X : Cx} {W : WX} {e : Expr} {t : TT} {f : EM Bool} (h : ZW X W e t f) : ZT X W e t f := ⟨h.pw.pt, h.sd⟩

/-! ### constants, names -/
def zVar (i : Nat) : EM D := fun env S => match env[i]? with
  | some (some d) => .ok d S
  | _ => .stk
def zC (d : D) : EM D := fun _ S => .ok d S
section
variable {X : Cx} {W : WX} {pos : Pos} {e : Expr}
theorem zc_of {d : D} {v : V} (h : PE X e (tC v)) (r : ∀ Hc m, Rep X.K Hc m d v) : ZE X W e (tC v) (zC d) :=
  ⟨h, fun fr m Hc env S σ H Q z zz p => p.use z (r Hc m)⟩
theorem ze_int {i j} : ZE X W (.Constant (.int i) j pos) (tC (.int i)) (zC (.int i)) := zc_of pe_int fun _ _ => rfl
theorem ze_bl {b j} : ZE X W (.Constant (.bool b) j pos) (tC (.bl b)) (zC (.bl b)) := zc_of pe_bl fun _ _ => rfl
theorem ze_str {x j} : ZE X W (.Constant (.str x) j pos) (tC (.str x)) (zC (.str x)) := zc_of pe_str fun _ _ => rfl
theorem se_var {K mg} {i : Nat} : SE K mg W (tVar i) (zVar i) := by
  intro fr m Hc env S σ H Q z zz p
  unfold zVar at p
  cases h : env[i]? with
  | none => rw [h] at p; exact p.elim
  | some o =>
    cases o with
    | none => rw [h] at p; exact p.elim
    | some d =>
      rw [h] at p
      obtain ⟨v, h1, h2⟩ := zz.at_ i d h
      exact ⟨v, h1, p.use z h2⟩
theorem zv (i : Nat) {x : Str} (hN : X.N[i]? = some x := by rfl) (hv : Vis X.env.scope x := by first | exact Or.inl rfl | exact Or.inr (Or.inl rfl) | exact Or.inr (Or.inr rfl)) (hd : (x == ("__debug__" : Str)) = false := by decide)
    (hcd : (x == ("__classdict__" : Str)) = false := by decide) : ZE X W (.Name x pos) (tVar i) (zVar i) := ⟨pe_var hN hv hd hcd, se_var⟩
end

/-! ### two-place operations -/
def OS (K : PySem.W.Frag) (mg : Mg) (r : R2) (o : D → D → Sto → Rs D) : Prop :=
  ∀ fr m Hc S H x y dx dy w Q, Zh K fr m Hc S H → Rep K Hc m dx x → Rep K Hc m dy y → Pst K mg fr (fun Hc m d v => Rep K Hc m d v) m Hc w Q (o dx dy S) → r x y H Q
structure ZO (X : Cx) (f : Value → Value → Sem Value) (r : R2) (o : D → D → Sto → Rs D) : Prop where
  op : OpR X f r
  sd : OS X.K X.mg r o
def zOp (o : D → D → Sto → Rs D) (a b : EM D) : EM D := fun env S => (a env S).bnd fun x S1 => (b env S1).bnd fun y S2 => o x y S2
section
variable {X : Cx} {W : WX} {pos : Pos} {a b : Expr} {ta tb : TE} {fa fb : EM D} {r : R2} {o : D → D → Sto → Rs D}
theorem se_op {K mg} (sa : SE K mg W ta fa) (sb : SE K mg W tb fb) (so : OS K mg r o) : SE K mg W (tOp r ta tb) (zOp o fa fb) := by
  intro fr m Hc env S σ H Q z zz p
  refine sa fr m Hc env S σ H _ z zz (p.bnd fun x S1 v m1 Hc1 H1 x1 z1 r1 p1 => ?_)
  refine sb fr m1 Hc1 env S1 σ H1 _ z1 (Ze.mono x1 zz) (p1.bnd fun y S2 u m2 Hc2 H2 x2 z2 r2 p2 => ?_)
  exact so fr m2 Hc2 S2 H2 v u x y _ Q z2 (Rep.mono x2 _ _ r1) r2 p2
theorem ze_op {op : Operator} (ho : ZO X (binaryOp op) r o) (ha : ZE X W a ta fa) (hb : ZE X W b tb fb) : ZE X W (.BinOp a op b pos) (tOp r ta tb) (zOp o fa fb) :=
  ⟨pe_op ho.op ha.pe hb.pe, se_op ha.sd hb.sd ho.sd⟩
theorem ze_cmp {op : CmpOp} (ho : ZO X (compareOp op) r o) (ha : ZE X W a ta fa) (hb : ZE X W b tb fb) (hm : behindInMarks op b = false := by first | exact nomark _ | rfl) : ZE X W (.Compare a [op] [b] pos) (tOp r ta tb) (zOp o fa fb) :=
  ⟨pe_cmpR ho.op ha.pe hb.pe hm, se_op ha.sd hb.sd ho.sd⟩
end
/-- by an alternative -/
theorem OS.or {K mg} {r r' : R2} {o o' : D → D → Sto → Rs D} (c : D → D → Bool) (h : OS K mg r o) (h' : OS K mg r' o') : OS K mg (fun x y H Q => r x y H Q ∨ r' x y H Q) (fun x y S => if c x y = true then o x y S else o' x y S) := by
  intro fr m Hc S H x y dx dy w Q z r1 r2 p
  by_cases e : c dx dy = true
  · simp only [e, if_true] at p
    exact .inl (h fr m Hc S H x y dx dy w Q z r1 r2 p)
  · simp only [e] at p
    exact .inr (h' fr m Hc S H x y dx dy w Q z r1 r2 p)

def dI2 (c : Int → Int → Prop) [∀ i j, Decidable (c i j)] (g : Int → Int → D) : D → D → Sto → Rs D
  | .int i, .int j, S => if c i j then .ok (g i j) S else .stk
  | _, _, _ => .stk
def dI0 (g : Int → Int → D) : D → D → Sto → Rs D
  | .int i, .int j, S => .ok (g i j) S
  | _, _, _ => .stk
theorem os_I {K mg} {c c' : Int → Int → Prop} [∀ i j, Decidable (c i j)] {g : Int → Int → D} {g' : Int → Int → V} (hc : ∀ i j, c i j → c' i j) (hg : ∀ Hc m i j, c i j → Rep K Hc m (g i j) (g' i j)) : OS K mg (rI c' g') (dI2 c g) := by
  intro fr m Hc S H x y dx dy w Q z r1 r2 p
  cases dx <;> first | exact p.elim | skip
  cases dy <;> first | exact p.elim | skip
  cases r1; cases r2
  rename_i i j
  unfold dI2 at p
  by_cases e : c i j
  · simp only [e, if_true] at p
    exact ⟨i, j, rfl, rfl, hc _ _ e, p.use z (hg _ _ _ _ e)⟩
  · simp only [e] at p
    exact p.elim
theorem os_I0 {K mg} {g : Int → Int → D} {g' : Int → Int → V} (hg : ∀ Hc m i j, Rep K Hc m (g i j) (g' i j)) : OS K mg (rI0 g') (dI0 g) := by
  intro fr m Hc S H x y dx dy w Q z r1 r2 p
  cases dx <;> first | exact p.elim | skip
  cases dy <;> first | exact p.elim | skip
  cases r1; cases r2
  exact ⟨_, _, rfl, rfl, p.use z (hg _ _ _ _)⟩
end Z

namespace Z
open PySem L2
open PySem.Spec PyProof.Rows
variable [Tabs] [Hot]

/-! ### lists and tuples that are read -/
def seqOf (d : D) (S : Sto) : Option (List D) := match d with
  | .lst ds => some ds
  | .rol ns => some (ns.map D.int)
  | .ptr n => match S[n]? with
    | some (.lst ds) => some ds
    | _ => none
  | _ => none
def anyOf (d : D) (S : Sto) : Option (List D) := match d with
  | .tup ds => some ds
  | .rot ds => some ds
  | _ => seqOf d S
section
variable {K : PySem.W.Frag} {fr : List (Addr × HO)} {m : List Addr} {Hc : Hp} {S : Sto} {H : Hp}
theorem Zh.seq (z : Zh K fr m Hc S H) {d : D} {v : V} {ds : List D} (r : Rep K Hc m d v) (e : seqOf d S = some ds) : ∃ a vs, v = .ref a ∧ SqL K H a vs ∧ Reps K Hc m ds vs := by
  cases d with
  | lst es =>
    cases e
    obtain ⟨a, vs, e1, q, rr⟩ := r
    exact ⟨a, vs, e1, .of (z.sub _ _ q), rr⟩
  | rol ns =>
    cases e
    obtain ⟨a, e1, q⟩ := r
    exact ⟨a, _, e1, z.sub.seq q, reps_ints ns⟩
  | ptr n =>
    obtain ⟨a, e1, q⟩ := r
    unfold seqOf at e
    cases h : S[n]? with
    | none => simp [h] at e
    | some c =>
      cases c with
      | gone => simp [h] at e
      | dct ks0 ds0 => simp [h] at e
      | dtt lk0 ks0 ds0 => simp [h] at e
      | obj nm0 ks0 ds0 => simp [h] at e
      | lst es =>
        simp [h] at e
        subst e
        obtain ⟨_, vs, h1, h2⟩ := z.cel n a _ q h
        exact ⟨a, vs, e1, .of h1, h2⟩
  | _ => cases e
theorem Zh.any (z : Zh K fr m Hc S H) {d : D} {v : V} {ds : List D} (r : Rep K Hc m d v) (e : anyOf d S = some ds) : ∃ a vs, v = .ref a ∧ (SqL K H a vs ∨ SqT K H a vs) ∧ Reps K Hc m ds vs := by
  cases d with
  | tup es =>
    cases e
    obtain ⟨a, vs, e1, q, rr⟩ := r
    exact ⟨a, vs, e1, .inr (.of (z.sub _ _ q)), rr⟩
  | rot es =>
    cases e
    obtain ⟨a, vs, e1, q, rr⟩ := r
    exact ⟨a, vs, e1, .inr (Same.tupT z.sub q), rr⟩
  | _ =>
    obtain ⟨a, vs, e1, q, rr⟩ := z.seq r e
    exact ⟨a, vs, e1, .inl q, rr⟩
theorem Reps.atI {ds : List D} {vs : List V} {i : Int} {d : D} (r : Reps K Hc m ds vs) (h : L2.atI ds i = some d) : ∃ v, L2.atI vs i = some v ∧ Rep K Hc m d v := by
  have hl := r.length
  unfold L2.atI at h ⊢
  rw [hl]
  cases e : ixN ds.length i with
  | none => exact absurd h (by rw [e]; intro q; cases q)
  | some j =>
    rw [e] at h
    exact r.get h
end

/-! ### subscripts -/
def dIx (x y : D) (S : Sto) : Rs D := match y with
  | .int i => match anyOf x S with
    | some ds => match L2.atI ds i with
      | some d => .ok d S
      | none => .stk
    | none => .stk
  | _ => .stk
theorem os_ix {K mg} : OS K mg (rIx K) dIx := by
  intro fr m Hc S H x y dx dy w Q z r1 r2 p
  unfold dIx at p
  cases dy <;> first | exact p.elim | skip
  rename_i i
  cases r2
  cases e : anyOf dx S with
  | none => simp [e] at p; exact p.elim
  | some ds =>
    simp only [e] at p
    cases e2 : L2.atI ds i with
    | none => simp [e2] at p; exact p.elim
    | some d =>
      simp only [e2] at p
      obtain ⟨a, vs, rfl, q, rr⟩ := z.any r1 e
      obtain ⟨v, h1, h2⟩ := rr.atI e2
      rcases q with q | q
      · exact .inl ⟨a, vs, i, v, rfl, rfl, q, h1, p.use z h2⟩
      · exact .inr (.inl ⟨a, vs, i, v, rfl, rfl, q, h1, p.use z h2⟩)
section
variable {X : Cx} {W : WX} {pos : Pos} {a b : Expr} {ta tb : TE} {fa fb : EM D}
theorem ze_ix (ha : ZE X W a ta fa) (hb : ZE X W b tb fb) (hs : PlainIx b := by exact fun _ _ => rfl) : ZE X W (.Subscript a b pos) (tOp (rIx X.K) ta tb) (zOp dIx fa fb) :=
  ⟨pe_ix ix_seq ha.pe hb.pe hs, se_op ha.sd hb.sd os_ix⟩
end
theorem get_list {X : Cx} : PGet X (rIxL X.K) := by
  intro ps s σ H ov iv vv ii Q inv ro ri ⟨a, ys, k, d, e1, e2, sq, at_, fit⟩
  subst e1 e2
  cases ro
  obtain ⟨tk, rfl⟩ := ri
  obtain ⟨its, rel, plain, _⟩ := inv.list sq
  obtain ⟨j, six, gj, lj, low, top⟩ := atI_get at_
  obtain ⟨w, gw, rw2⟩ := rel.get gj
  have hl := rel.length
  have hn := line63
  have done : EP X ps σ Q w s := ⟨d, H, inv, rw2, fit⟩
  rcases Int.lt_or_le k 0 with neg | pos
  · rw [seqIndex_neg neg low, hl] at six
    have ej : (k + (its.toArray.size : Int)).toNat = j := by
      rw [List.size_toArray]; exact Option.some.inj six
    exact wpAny_getItem_list_neg plain.isList neg (by rw [List.size_toArray] <;> omega) (by omega) (by rw [ej]; simpa using gw) done
  · rw [seqIndex_of pos top] at six
    exact wpAny_getItem_list plain.isList pos (by omega) (by rw [Option.some.inj six]; simpa using gw) done

/-! ### + - * // % and the like -/
def bigN : Nat := 1000000
theorem big_le {n : Nat} (h : n ≤ bigN) : n ≤ sizeLine := Nat.le_trans h (by decide)
def dAdd (x y : D) (S : Sto) : Rs D := match x, y with
  | .int i, .int j => .ok (.int (i + j)) S
  | .str a, .str b => if a.length + b.length ≤ bigN then .ok (.str (a ++ b)) S else .stk
  | .tup xs, .tup ys => if xs.length + ys.length ≤ bigN then .ok (.tup (xs ++ ys)) S else .stk
  | .lst xs, .lst ys => if xs.length + ys.length ≤ bigN then .ok (.lst (xs ++ ys)) S else .stk
  | .ptr n, .lst ys => match S[n]? with
    | some (.lst xs) => if xs.length + ys.length ≤ bigN then .ok (.lst (xs ++ ys)) S else .stk
    | _ => .stk
  | _, _ => .stk
def rAddZ (K : PySem.W.Frag) : R2 := fun x y H Q => (rI0 fun i j => .int (i + j)) x y H Q ∨ ((∃ i j, x = .str i ∧ y = .str j ∧ i.length + j.length ≤ sizeLine ∧ Q (.str (i ++ j)) H) ∨ (rCatA K x y H Q ∨ rCat x y H Q))
theorem or_addZ {X : Cx} : OpR X (binaryOp .Add) (rAddZ X.K) := op_add.or (op_add_str.or (op_catA.or op_cat))
theorem os_add {K mg} : OS K mg (rAddZ K) dAdd := by
  intro fr m Hc S H x y dx dy w Q z r1 r2 p
  have lstCase : ∀ (xs ys : List D) (a : Addr) (vs : List V), H a = some (.lst vs) → Reps K Hc m xs vs → x = .ref a → Rep K Hc m (.lst ys) y → xs.length + ys.length ≤ bigN → Pst K mg fr (fun Hc m d v => Rep K Hc m d v) m Hc w Q (.ok (.lst (xs ++ ys)) S) → rAddZ K x y H Q := by
    intro xs ys a vs h1 h2 e r2 hl p
    obtain ⟨b, ws, e2, h3, h4⟩ := r2
    subst e e2
    refine .inr (.inr (.inr ⟨a, b, vs, ws, rfl, rfl, h1, z.sub _ _ h3, ?_, fun q hq => ?_⟩))
    · rw [h2.length, h4.length]; exact big_le hl
    · refine p.useN z hq ?_
      have x := (z.new (o := .lst (vs ++ ws)) hq).2
      exact ⟨q, _, rfl, upd_same, (Reps.mono x _ _ h2).append (Reps.mono x _ _ h4)⟩
  cases dx with
  | int i =>
    cases dy <;> first | exact p.elim | skip
    cases r1; cases r2
    exact .inl ⟨_, _, rfl, rfl, p.use z rfl⟩
  | str i =>
    cases dy <;> first | exact p.elim | skip
    rename_i j
    cases r1; cases r2
    simp only [dAdd] at p
    by_cases e : i.length + j.length ≤ bigN
    · simp only [e, if_true] at p
      exact .inr (.inl ⟨_, _, rfl, rfl, big_le e, p.use z rfl⟩)
    · simp only [e] at p; exact p.elim
  | tup xs =>
    cases dy <;> first | exact p.elim | skip
    rename_i ys
    simp only [dAdd] at p
    by_cases e : xs.length + ys.length ≤ bigN
    · simp only [e, if_true] at p
      obtain ⟨a, vs, e1, h1, h2⟩ := r1
      obtain ⟨b, ws, e2, h3, h4⟩ := r2
      subst e1 e2
      refine .inr (.inr (.inl ⟨a, b, vs, ws, rfl, rfl, .of (z.sub _ _ h1), .of (z.sub _ _ h3), ?_, fun hv => ?_, fun hv hw => ?_, fun hv hw q hq => ?_⟩))
      · rw [h2.length, h4.length]; exact big_le e
      · subst hv
        have : xs = [] := List.eq_nil_of_length_eq_zero (by rw [← h2.length]; rfl)
        subst this
        exact p.use z ⟨b, ws, rfl, h3, h4⟩
      · subst hw
        have : ys = [] := List.eq_nil_of_length_eq_zero (by rw [← h4.length]; rfl)
        subst this
        rw [List.append_nil] at p
        exact p.use z ⟨a, vs, rfl, h1, h2⟩
      · refine p.useN z hq ?_
        have x := (z.new (o := .tup (vs ++ ws)) hq).2
        exact ⟨q, _, rfl, upd_same, (Reps.mono x _ _ h2).append (Reps.mono x _ _ h4)⟩
    · simp only [e] at p; exact p.elim
  | lst xs =>
    cases dy <;> first | exact p.elim | skip
    rename_i ys
    simp only [dAdd] at p
    by_cases e : xs.length + ys.length ≤ bigN
    · simp only [e, if_true] at p
      obtain ⟨a, vs, e1, h1, h2⟩ := r1
      exact lstCase xs ys a vs (z.sub _ _ h1) h2 e1 r2 e p
    · simp only [e] at p; exact p.elim
  | ptr n =>
    cases dy <;> first | exact p.elim | skip
    rename_i ys
    simp only [dAdd] at p
    obtain ⟨a, e1, q⟩ := r1
    cases h : S[n]? with
    | none => simp [h] at p; exact p.elim
    | some c =>
      cases c with
      | gone => simp [h] at p; exact p.elim
      | dct ks0 ds0 => simp [h] at p; exact p.elim
      | dtt lk0 ks0 ds0 => simp [h] at p; exact p.elim
      | obj nm0 ks0 ds0 => simp [h] at p; exact p.elim
      | lst xs =>
        simp only [h] at p
        by_cases e : xs.length + ys.length ≤ bigN
        · simp only [e, if_true] at p
          obtain ⟨_, vs, h1, h2⟩ := z.cel n a _ q h
          exact lstCase xs ys a vs h1 h2 e1 r2 e p
        · simp only [e] at p; exact p.elim
  | _ => cases dy <;> exact p.elim
theorem zo_add {X : Cx} : ZO X (binaryOp .Add) (rAddZ X.K) dAdd := ⟨or_addZ, os_add⟩
theorem zo_sub {X : Cx} : ZO X (binaryOp .Sub) (rI0 fun i j => .int (i - j)) (dI0 fun i j => .int (i - j)) := ⟨op_sub, os_I0 fun _ _ _ _ => rfl⟩
instance (i j : Int) : Decidable (CMul i j) := by unfold CMul; infer_instance
instance (i j : Int) : Decidable (CDiv i j) := by unfold CDiv; infer_instance
instance (i j : Int) : Decidable (CPow i j) := by unfold CPow; infer_instance
/-- int * int; [..] * int -/
def dMul (x y : D) (S : Sto) : Rs D := match x, y with
  | .int i, .int j => if CMul i j then .ok (.int (i * j)) S else .stk
  | .lst xs, .int k => if k ≤ 1000000 ∧ -1000000 ≤ k ∧ xs.length * k.toNat ≤ bigN then .ok (.lst (List.replicate k.toNat xs).flatten) S else .stk
  | _, _ => .stk
theorem Reps.rep {K : PySem.W.Frag} {Hc : Hp} {m : List Addr} {ds : List D} {vs : List V} (h : Reps K Hc m ds vs) : ∀ n : Nat, Reps K Hc m (List.replicate n ds).flatten (List.replicate n vs).flatten
  | 0 => rfl
  | n + 1 => by rw [List.replicate_succ, List.replicate_succ, List.flatten_cons, List.flatten_cons]; exact h.append (Reps.rep h n)
def rMulZ : R2 := fun x y H Q => (rI CMul fun i j => .int (i * j)) x y H Q ∨ rRep x y H Q
theorem os_mul {K mg} : OS K mg rMulZ dMul := by
  intro fr m Hc S H x y dx dy w Q z r1 r2 p
  cases dx with
  | int i =>
    cases dy <;> first | exact p.elim | skip
    rename_i j
    cases r1; cases r2
    simp only [dMul] at p
    by_cases e : CMul i j
    · simp only [e, if_true] at p
      exact .inl ⟨_, _, rfl, rfl, e, p.use z rfl⟩
    · simp only [e] at p; exact p.elim
  | lst xs =>
    cases dy <;> first | exact p.elim | skip
    rename_i k
    cases r2
    simp only [dMul] at p
    by_cases e : k ≤ 1000000 ∧ -1000000 ≤ k ∧ xs.length * k.toNat ≤ bigN
    · rw [if_pos e] at p
      obtain ⟨a, vs, e1, h1, h2⟩ := r1
      subst e1
      refine .inr ⟨a, k, vs, rfl, rfl, z.sub _ _ h1, by omega, by omega, by rw [h2.length]; exact big_le e.2.2, fun q hq => ?_⟩
      refine p.useN z hq ?_
      have x := (z.new (o := .lst (List.replicate k.toNat vs).flatten) hq).2
      exact ⟨q, _, rfl, upd_same, (Reps.mono x _ _ h2).rep _⟩
    · rw [if_neg e] at p; exact p.elim
  | _ => cases dy <;> exact p.elim
theorem zo_mul {X : Cx} : ZO X (binaryOp .Mult) rMulZ dMul := ⟨op_mul.or op_rep, os_mul⟩
def dDiv : D → D → Sto → Rs D := dI2 CDiv fun i j => .int (i / j)
def dMod : D → D → Sto → Rs D := dI2 (fun _ j => 0 < j) fun i j => .int (i % j)
def dShl : D → D → Sto → Rs D := dI2 CPow fun i j => .int (i * 2 ^ j.toNat)
def dShr : D → D → Sto → Rs D := dI2 (fun _ j => 0 ≤ j) fun i j => .int (i / 2 ^ j.toNat)
def dSub : D → D → Sto → Rs D := dI0 fun i j => .int (i - j)
def dAnd : D → D → Sto → Rs D := dI0 fun i j => .int (Builtin.bitAnd i j)
def dOr : D → D → Sto → Rs D := dI0 fun i j => .int (Builtin.bitOr i j)
def dXor : D → D → Sto → Rs D := dI0 fun i j => .int (Builtin.bitXor i j)
section
variable {X : Cx}
theorem zo_div : ZO X (binaryOp .FloorDiv) (rI CDiv fun i j => .int (i / j)) dDiv := ⟨op_fdiv, os_I (fun _ _ h => h) fun _ _ _ _ _ => rfl⟩
theorem zo_mod : ZO X (binaryOp .Mod) (rI (fun _ j => 0 < j) fun i j => .int (i % j)) dMod := ⟨op_mod, os_I (fun _ _ h => h) fun _ _ _ _ _ => rfl⟩
theorem zo_shl : ZO X (binaryOp .LShift) (rI CPow fun i j => .int (i * 2 ^ j.toNat)) dShl := ⟨op_shl, os_I (fun _ _ h => h) fun _ _ _ _ _ => rfl⟩
theorem zo_shr : ZO X (binaryOp .RShift) (rI (fun _ j => 0 ≤ j) fun i j => .int (i / 2 ^ j.toNat)) dShr := ⟨op_shr, os_I (fun _ _ h => h) fun _ _ _ _ _ => rfl⟩
theorem zo_and : ZO X (binaryOp .BitAnd) (rI0 fun i j => .int (Builtin.bitAnd i j)) dAnd := ⟨op_and, os_I0 fun _ _ _ _ => rfl⟩
theorem zo_or : ZO X (binaryOp .BitOr) (rI0 fun i j => .int (Builtin.bitOr i j)) dOr := ⟨op_or, os_I0 fun _ _ _ _ => rfl⟩
theorem zi_or : ZO X (inplaceOp .BitOr) (rI0 fun i j => .int (Builtin.bitOr i j)) dOr := ⟨iop_or, os_I0 fun _ _ _ _ => rfl⟩
theorem zi_xor : ZO X (inplaceOp .BitXor) (rI0 fun i j => .int (Builtin.bitXor i j)) dXor := ⟨iop_xor, os_I0 fun _ _ _ _ => rfl⟩
/-! comparisons of ints -/
def dLt : D → D → Sto → Rs D := dI0 fun i j => .bl (decide (i < j))
def dLe : D → D → Sto → Rs D := dI0 fun i j => .bl (decide (i ≤ j))
def dGt : D → D → Sto → Rs D := dI0 fun i j => .bl (decide (j < i))
def dGe : D → D → Sto → Rs D := dI0 fun i j => .bl (decide (j ≤ i))
theorem zo_lt : ZO X (compareOp .Lt) (rI0 fun i j => .bl (decide (i < j))) dLt := ⟨op_lt, os_I0 fun _ _ _ _ => rfl⟩
theorem zo_le : ZO X (compareOp .LtE) (rI0 fun i j => .bl (decide (i ≤ j))) dLe := ⟨op_le, os_I0 fun _ _ _ _ => rfl⟩
theorem zo_gt : ZO X (compareOp .Gt) (rI0 fun i j => .bl (decide (j < i))) dGt := ⟨op_gt, os_I0 fun _ _ _ _ => rfl⟩
theorem zo_ge : ZO X (compareOp .GtE) (rI0 fun i j => .bl (decide (j ≤ i))) dGe := ⟨op_ge, os_I0 fun _ _ _ _ => rfl⟩
end
/-! is None -/
def dIsN (x y : D) (S : Sto) : Rs D := match y with
  | .non => match x with
    | .non => .ok (.bl true) S
    | _ => .ok (.bl false) S
  | _ => .stk
def dIsNot (x y : D) (S : Sto) : Rs D := match y with
  | .non => match x with
    | .non => .ok (.bl false) S
    | _ => .ok (.bl true) S
  | _ => .stk
def D.isNon : D → Bool
  | .non => true
  | _ => false
/-! ### == of data -/
mutual
/-- as data, with the store's lists -/
def toP (S : Sto) : D → Option PyData
  | .non => some .none
  | .bl b => some (.bool b)
  | .int i => some (.int i)
  | .str x => some (.str x)
  | .tup ds => (toPs S ds).map .tuple
  | .rot ds => (toPs S ds).map .tuple
  | .lst ds => (toPs S ds).map .list
  | _ => none
def toPs (S : Sto) : List D → Option (List PyData)
  | [] => some []
  | d :: ds => match toP S d, toPs S ds with
    | some a, some b => some (a :: b)
    | _, _ => none
end
mutual
theorem toP_ok {K fr m Hc S H} (z : Zh K fr m Hc S H) : ∀ (d : D) (v : V) (p : PyData), Rep K Hc m d v → toP S d = some p → Dp K H v p
  | .non, _, _, r, e => by cases r; cases e; exact .non
  | .bl b, _, _, r, e => by cases r; cases e; exact .bl b
  | .int b, _, _, r, e => by cases r; cases e; exact .int b
  | .str b, _, _, r, e => by cases r; cases e; exact .str b
  | .tup ds, _, _, ⟨a, vs, e1, q, rr⟩, e => by
    subst e1
    unfold toP at e
    cases h : toPs S ds with
    | none => rw [h] at e; cases e
    | some ps => rw [h] at e; cases e; exact .tup (.of (z.sub _ _ q)) (toPs_ok z ds vs ps rr h)
  | .rot ds, _, _, ⟨a, vs, e1, q, rr⟩, e => by
    subst e1
    unfold toP at e
    cases h : toPs S ds with
    | none => rw [h] at e; cases e
    | some ps => rw [h] at e; cases e; exact .tup (Same.tupT z.sub q) (toPs_ok z ds vs ps rr h)
  | .ty _, _, _, _, e => by cases e
  | .lst ds, _, _, ⟨a, vs, e1, q, rr⟩, e => by
    subst e1
    unfold toP at e
    cases h : toPs S ds with
    | none => rw [h] at e; cases e
    | some ps => rw [h] at e; cases e; exact .lst (.of (z.sub _ _ q)) (toPs_ok z ds vs ps rr h)
  | .ptr _, _, _, _, e => by cases e
  | .rol _, _, _, _, e => by cases e
  | .rng _ _, _, _, _, e => by cases e
  | .dct _ _, _, _, _, e => by cases e
theorem toPs_ok {K fr m Hc S H} (z : Zh K fr m Hc S H) : ∀ (ds : List D) (vs : List V) (ps : List PyData), Reps K Hc m ds vs → toPs S ds = some ps → DpAll K H vs ps
  | [], _, _, r, e => by cases r; cases e; exact .nil
  | d :: ds, _, _, ⟨v, r, e1, h1, h2⟩, e => by
    subst e1
    unfold toPs at e
    cases h : toP S d with
    | none => simp [h] at e
    | some p =>
      cases h' : toPs S ds with
      | none => simp [h, h'] at e
      | some ps =>
        simp [h, h'] at e
        subst e
        exact .cons (toP_ok z d v p h1 h) (toPs_ok z ds r ps h2 h')
end
def dEqD (neg : Bool) (x y : D) (S : Sto) : Rs D := match toP S x, toP S y with
  | some a, some b => if SeqAt.shaped a = true ∧ SeqAt.shaped b = true then .ok (.bl (if neg then !PyData.eqv a b else PyData.eqv a b)) S else .stk
  | _, _ => .stk
def dEq (x y : D) (S : Sto) : Rs D := match x, y with
  | .int i, .int j => .ok (.bl (decide (i = j))) S
  | .bl i, .bl j => .ok (.bl (decide (i = j))) S
  | .str i, .str j => .ok (.bl (decide (i = j))) S
  | _, _ => dEqD false x y S
def dNe (x y : D) (S : Sto) : Rs D := match x, y with
  | .int i, .int j => .ok (.bl (!decide (i = j))) S
  | .bl i, .bl j => .ok (.bl (!decide (i = j))) S
  | .str i, .str j => .ok (.bl (!decide (i = j))) S
  | _, _ => dEqD true x y S
def rEqZ (K : PySem.W.Frag) : R2 := fun x y H Q => rEq x y H Q ∨ rEqD K x y H Q
def rNeZ (K : PySem.W.Frag) : R2 := fun x y H Q => rNe x y H Q ∨ rNeD K x y H Q
theorem os_eqD {K mg} : OS K mg (rEqD K) (dEqD false) := by
  intro fr m Hc S H x y dx dy w Q z r1 r2 p
  unfold dEqD at p
  cases h1 : toP S dx with
  | none => simp [h1] at p; exact p.elim
  | some a =>
    cases h2 : toP S dy with
    | none => simp [h1, h2] at p; exact p.elim
    | some b =>
      simp only [h1, h2] at p
      by_cases e : SeqAt.shaped a = true ∧ SeqAt.shaped b = true
      · rw [if_pos e] at p
        exact ⟨a, b, toP_ok z _ _ _ r1 h1, toP_ok z _ _ _ r2 h2, e.1, e.2, p.use z rfl⟩
      · rw [if_neg e] at p; exact p.elim
theorem os_neD {K mg} : OS K mg (rNeD K) (dEqD true) := by
  intro fr m Hc S H x y dx dy w Q z r1 r2 p
  unfold dEqD at p
  cases h1 : toP S dx with
  | none => simp [h1] at p; exact p.elim
  | some a =>
    cases h2 : toP S dy with
    | none => simp [h1, h2] at p; exact p.elim
    | some b =>
      simp only [h1, h2] at p
      by_cases e : SeqAt.shaped a = true ∧ SeqAt.shaped b = true
      · rw [if_pos e] at p
        exact ⟨a, b, toP_ok z _ _ _ r1 h1, toP_ok z _ _ _ r2 h2, e.1, e.2, p.use z rfl⟩
      · rw [if_neg e] at p; exact p.elim
theorem os_eq {K mg} : OS K mg (rEqZ K) dEq := by
  intro fr m Hc S H x y dx dy w Q z r1 r2 p
  unfold dEq at p
  split at p
  · rename_i i j
    cases r1; cases r2
    refine .inl ⟨rfl, ?_⟩
    have q : Q (.bl (decide (i = j))) H := p.use z rfl
    simpa using q
  · rename_i i j
    cases r1; cases r2
    refine .inl ⟨rfl, ?_⟩
    have q : Q (.bl (decide (i = j))) H := p.use z rfl
    simpa using q
  · rename_i i j
    cases r1; cases r2
    refine .inl ⟨rfl, ?_⟩
    have q : Q (.bl (decide (i = j))) H := p.use z rfl
    simpa using q
  · exact .inr (os_eqD fr m Hc S H x y dx dy w Q z r1 r2 p)
theorem os_ne {K mg} : OS K mg (rNeZ K) dNe := by
  intro fr m Hc S H x y dx dy w Q z r1 r2 p
  unfold dNe at p
  split at p
  · rename_i i j
    cases r1; cases r2
    refine .inl ⟨rfl, ?_⟩
    have q : Q (.bl (!decide (i = j))) H := p.use z rfl
    simpa using q
  · rename_i i j
    cases r1; cases r2
    refine .inl ⟨rfl, ?_⟩
    have q : Q (.bl (!decide (i = j))) H := p.use z rfl
    simpa using q
  · rename_i i j
    cases r1; cases r2
    refine .inl ⟨rfl, ?_⟩
    have q : Q (.bl (!decide (i = j))) H := p.use z rfl
    simpa using q
  · exact .inr (os_neD fr m Hc S H x y dx dy w Q z r1 r2 p)
theorem zo_eq {X : Cx} {k : Nat} (hr : Room k X.A) : ZO X (compareOp .Eq) (rEqZ X.K) dEq := ⟨op_eq.or (op_eqD (by have := hr.units; omega)), os_eq⟩
theorem zo_ne {X : Cx} {k : Nat} (hr : Room k X.A) : ZO X (compareOp .NotEq) (rNeZ X.K) dNe := ⟨op_ne.or (op_neD (by have := hr.units; omega)), os_ne⟩

/-! ### one-place operations, truth -/
def US (K : PySem.W.Frag) (mg : Mg) (r : V → Hp → VK → Prop) (o : D → Sto → Rs D) : Prop :=
  ∀ fr m Hc S H x dx w Q, Zh K fr m Hc S H → Rep K Hc m dx x → Pst K mg fr (fun Hc m d v => Rep K Hc m d v) m Hc w Q (o dx S) → r x H Q
def zUn (o : D → Sto → Rs D) (a : EM D) : EM D := fun env S => (a env S).bnd fun x S1 => o x S1
def dNeg (x : D) (S : Sto) : Rs D := match x with
  | .int i => .ok (.int (-i)) S
  | _ => .stk
theorem us_neg {K mg} : US K mg (rU fun i => .int (-i)) dNeg := by
  intro fr m Hc S H x dx w Q z r1 p
  cases dx <;> first | exact p.elim | skip
  cases r1
  exact ⟨_, rfl, p.use z rfl⟩
section
variable {X : Cx} {W : WX} {pos : Pos} {a b c : Expr} {ta tb tc : TE} {fa fb fc : EM D} {tA tB' : TT} {gA gB : EM Bool} {rest : List Expr}
theorem se_un {K mg} {r : V → Hp → VK → Prop} {o : D → Sto → Rs D} (sa : SE K mg W ta fa) (so : US K mg r o) : SE K mg W (tUn r ta) (zUn o fa) := by
  intro fr m Hc env S σ H Q z zz p
  refine sa fr m Hc env S σ H _ z zz (p.bnd fun x S1 v m1 Hc1 H1 x1 z1 r1 p1 => ?_)
  exact so fr m1 Hc1 S1 H1 v x _ Q z1 r1 p1
theorem ze_neg (ha : ZE X W a ta fa) : ZE X W (.UnaryOp .USub a pos) (tUn (rU fun i => .int (-i)) ta) (zUn dNeg fa) := ⟨pe_un un_neg ha.pe, se_un ha.sd us_neg⟩
/-- a value's truth -/
def truD (S : Sto) (d : D) : Option Bool := match d with
  | .non => some false
  | .bl b => some b
  | .int i => some (i != 0)
  | .str y => if y.length ≤ bigN then some ((y.length : Int) != 0) else none
  | d => (anyOf d S).map fun ds => !ds.isEmpty
def zTru (a : EM D) : EM Bool := fun env S => (a env S).bnd fun x S1 => match truD S1 x with
  | some b => .ok b S1
  | none => .stk
theorem tru_d {K fr m Hc S H} (z : Zh K fr m Hc S H) {d : D} {v : V} {b : Bool} (r : Rep K Hc m d v) (e : truD S d = some b) : TruV K v H b := by
  have go : ∀ ds : List D, anyOf d S = some ds → b = !ds.isEmpty → TruV K v H b := fun ds h1 h2 => by
    obtain ⟨a, vs, rfl, q, rr⟩ := z.any r h1
    have hb : b = !vs.isEmpty := by
      rw [h2]
      have := rr.length
      cases ds <;> cases vs <;> simp at this ⊢
    rcases q with q | q
    · exact .inl ⟨vs, q, hb⟩
    · exact .inr (.inl ⟨vs, q, hb⟩)
  have go2 : (anyOf d S).map (fun ds => !ds.isEmpty) = some b → TruV K v H b := fun h => by
    cases h1 : anyOf d S with
    | none => exact absurd h (by rw [h1]; intro q; cases q)
    | some ds => rw [h1] at h; cases h; exact go ds h1 rfl
  cases d with
  | non => cases r; cases e; rfl
  | bl b => cases r; cases e; rfl
  | int i => cases r; cases e; rfl
  | str y =>
    cases r
    unfold truD at e
    by_cases h : y.length ≤ bigN
    · simp only [h, if_true] at e
      cases e
      exact ⟨big_le h, rfl⟩
    · simp only [h] at e; cases e
  | _ => exact go2 e
theorem zt_tru (ha : ZE X W a ta fa) (he : ∀ whole, isTrue a X.env whole = (do let v ← whole; standAt a.pos; holding [v] (truthy v)) := by intro _; rfl) : ZT X W a (fun σ H Q => ta σ H fun x H' => ∃ k, TruV X.K x H' k ∧ Q k H') (zTru fa) := by
  refine ⟨pt_truth ha.pe he, ?_⟩
  intro fr m Hc env S σ H Q z zz p
  refine ha.sd fr m Hc env S σ H _ z zz (p.bnd fun x S1 v m1 Hc1 H1 x1 z1 r1 p1 => ?_)
  cases e : truD S1 x with
  | none => simp [e] at p1; exact p1.elim
  | some b =>
    simp only [e] at p1
    exact ⟨b, tru_d z1 r1 e, p1.use z1 rfl⟩
/-- a comparison as a test -/
def zB (f : EM D) : EM Bool := fun env S => (f env S).bnd fun x S1 => match x with
  | .bl b => .ok b S1
  | _ => .stk
theorem zt_cmp {op : CmpOp} {r : R2} {o : D → D → Sto → Rs D} (ho : ZO X (compareOp op) r o) (ha : ZE X W a ta fa) (hb : ZE X W b tb fb) (hm : behindInMarks op b = false := by first | exact nomark _ | rfl) : ZT X W (.Compare a [op] [b] pos) (tTest (tOp r ta tb)) (zB (zOp o fa fb)) := by
  refine ⟨pt_cmpR ho.op ha.pe hb.pe hm, ?_⟩
  intro fr m Hc env S σ H Q z zz p
  refine se_op ha.sd hb.sd ho.sd fr m Hc env S σ H _ z zz (p.bnd fun x S1 v m1 Hc1 H1 x1 z1 r1 p1 => ?_)
  cases x <;> first | exact p1.elim | skip
  cases r1
  exact ⟨_, rfl, p1.use z1 rfl⟩
def zAnd (a b : EM Bool) : EM Bool := fun env S => (a env S).bnd fun c S1 => if c = true then b env S1 else .ok false S1
def zOr (a b : EM Bool) : EM Bool := fun env S => (a env S).bnd fun c S1 => if c = true then .ok true S1 else b env S1
def zNot (a : EM Bool) : EM Bool := fun env S => (a env S).bnd fun c S1 => .ok (!c) S1
theorem zw_and1 (ha : ZT X W a tA gA) : ZW X W (.BoolOp .And [a] pos) tA gA := ⟨pw_and1 ha.pt, ha.sd⟩
theorem zw_or1 (ha : ZT X W a tA gA) : ZW X W (.BoolOp .Or [a] pos) tA gA := ⟨pw_or1 ha.pt, ha.sd⟩
theorem st_and {K mg} (sa : ST K mg W tA gA) (sb : ST K mg W tB' gB) : ST K mg W (tAnd tA tB') (zAnd gA gB) := by
  intro fr m Hc env S σ H Q z zz p
  refine sa fr m Hc env S σ H _ z zz (p.bnd fun c S1 d m1 Hc1 H1 x1 z1 r1 p1 => ?_)
  cases r1
  cases c with
  | true => exact iteT (sb fr m1 Hc1 env S1 σ H1 Q z1 (Ze.mono x1 zz) p1)
  | false => exact iteF (p1.use z1 rfl)
theorem st_or {K mg} (sa : ST K mg W tA gA) (sb : ST K mg W tB' gB) : ST K mg W (tOr tA tB') (zOr gA gB) := by
  intro fr m Hc env S σ H Q z zz p
  refine sa fr m Hc env S σ H _ z zz (p.bnd fun c S1 d m1 Hc1 H1 x1 z1 r1 p1 => ?_)
  cases r1
  cases c with
  | false => exact iteF (sb fr m1 Hc1 env S1 σ H1 Q z1 (Ze.mono x1 zz) p1)
  | true => exact iteT (p1.use z1 rfl)
theorem zw_and (ha : ZT X W a tA gA) (hb : ZW X W (.BoolOp .And (b :: rest) pos) tB' gB) : ZW X W (.BoolOp .And (a :: b :: rest) pos) (tAnd tA tB') (zAnd gA gB) := ⟨pw_and ha.pt hb.pw, st_and ha.sd hb.sd⟩
theorem zw_or (ha : ZT X W a tA gA) (hb : ZW X W (.BoolOp .Or (b :: rest) pos) tB' gB) : ZW X W (.BoolOp .Or (a :: b :: rest) pos) (tOr tA tB') (zOr gA gB) := ⟨pw_or ha.pt hb.pw, st_or ha.sd hb.sd⟩
theorem zt_not (ha : ZT X W a tA gA) : ZT X W (.UnaryOp .Not a pos) (tNot tA) (zNot gA) := by
  refine ⟨pt_not ha.pt, ?_⟩
  intro fr m Hc env S σ H Q z zz p
  refine ha.sd fr m Hc env S σ H _ z zz (p.bnd fun c S1 d m1 Hc1 H1 x1 z1 r1 p1 => ?_)
  cases r1
  exact p1.use z1 rfl
/-! as values -/
def zAndV (a b : EM D) : EM D := fun env S => (a env S).bnd fun c S1 => match c with
  | .bl true => b env S1
  | .bl false => .ok (.bl false) S1
  | _ => .stk
def zOrV (a b : EM D) : EM D := fun env S => (a env S).bnd fun c S1 => match c with
  | .bl true => .ok (.bl true) S1
  | .bl false => b env S1
  | _ => .stk
def zNotV (a : EM D) : EM D := fun env S => (a env S).bnd fun c S1 => match c with
  | .bl k => .ok (.bl (!k)) S1
  | _ => .stk
theorem ze_one {op} (ha : ZE X W a ta fa) : ZE X W (.BoolOp op [a] pos) ta fa := ⟨pe_one ha.pe, ha.sd⟩
theorem ze_and (ha : ZE X W a ta fa) (hb : ZE X W (.BoolOp .And (b :: rest) pos) tb fb) : ZE X W (.BoolOp .And (a :: b :: rest) pos) (tAndV ta tb) (zAndV fa fb) := by
  refine ⟨pe_and ha.pe hb.pe, ?_⟩
  intro fr m Hc env S σ H Q z zz p
  refine ha.sd fr m Hc env S σ H _ z zz (p.bnd fun c S1 d m1 Hc1 H1 x1 z1 r1 p1 => ?_)
  cases c <;> first | exact p1.elim | skip
  rename_i k
  cases r1
  cases k with
  | true => exact ⟨true, rfl, iteT (hb.sd fr m1 Hc1 env S1 σ H1 Q z1 (Ze.mono x1 zz) p1)⟩
  | false => exact ⟨false, rfl, iteF (p1.use z1 rfl)⟩
theorem ze_or (ha : ZE X W a ta fa) (hb : ZE X W (.BoolOp .Or (b :: rest) pos) tb fb) : ZE X W (.BoolOp .Or (a :: b :: rest) pos) (tOrV ta tb) (zOrV fa fb) := by
  refine ⟨pe_or ha.pe hb.pe, ?_⟩
  intro fr m Hc env S σ H Q z zz p
  refine ha.sd fr m Hc env S σ H _ z zz (p.bnd fun c S1 d m1 Hc1 H1 x1 z1 r1 p1 => ?_)
  cases c <;> first | exact p1.elim | skip
  rename_i k
  cases r1
  cases k with
  | false => exact ⟨false, rfl, iteF (hb.sd fr m1 Hc1 env S1 σ H1 Q z1 (Ze.mono x1 zz) p1)⟩
  | true => exact ⟨true, rfl, iteT (p1.use z1 rfl)⟩
theorem ze_not (ha : ZE X W a ta fa) : ZE X W (.UnaryOp .Not a pos) (tNotV ta) (zNotV fa) := by
  refine ⟨pe_not ha.pe, ?_⟩
  intro fr m Hc env S σ H Q z zz p
  refine ha.sd fr m Hc env S σ H _ z zz (p.bnd fun c S1 d m1 Hc1 H1 x1 z1 r1 p1 => ?_)
  cases c <;> first | exact p1.elim | skip
  cases r1
  exact ⟨_, rfl, p1.use z1 rfl⟩
def zIf (c : EM Bool) (a b : EM D) : EM D := fun env S => (c env S).bnd fun k S1 => if k = true then a env S1 else b env S1
/-- a op b op c -/
def zChain (o o' : D → D → Sto → Rs D) (a b c : EM D) : EM D := fun env S => (a env S).bnd fun x S1 => (b env S1).bnd fun y S2 => (o x y S2).bnd fun k S3 => match k with
  | .bl true => (c env S3).bnd fun w S4 => o' y w S4
  | .bl false => .ok (.bl false) S3
  | _ => .stk
end
end Z

namespace Z
open PySem L2
open PySem.Spec PyProof.Rows
variable [Tabs] [Hot]

/-! ### argument lists, displays -/
def zNil : EM (List D) := fun _ S => .ok [] S
def zCons (a : EM D) (r : EM (List D)) : EM (List D) := fun env S => (a env S).bnd fun x S1 => (r env S1).bnd fun xs S2 => .ok (x :: xs) S2
def zTup (a : EM (List D)) : EM D := fun env S => (a env S).bnd fun xs S1 => if xs.length ≤ bigN then .ok (.tup xs) S1 else .stk
def zLst (a : EM (List D)) : EM D := fun env S => (a env S).bnd fun xs S1 => if xs.length ≤ bigN then .ok (.lst xs) S1 else .stk
def zLstC (a : EM (List D)) : EM D := fun env S => (a env S).bnd fun xs S1 => if xs.length ≤ bigN then .ok (.ptr S1.length) (S1 ++ [.lst xs]) else .stk
theorem Pst.useC {K mg fr m Hc w} {Q : VK} {S : Sto} {H : Hp} {ds : List D} {vs : List V} {p : Addr} (h : Pst K mg fr (fun Hc m d v => Rep K Hc m d v) m Hc w Q (.ok (.ptr S.length) (S ++ [.lst ds]))) (z : Zh K fr m Hc S H) (hp : H p = none) (r : Reps K Hc m ds vs) : Q (.ref p) (upd H p (.lst vs)) := by
  obtain ⟨z', x⟩ := z.newC hp r
  exact h _ _ _ _ x z' ⟨p, rfl, by rw [← z.len, List.getElem?_append_right (Nat.le_refl _)]; simp⟩
section
variable {X : Cx} {W : WX} {pos : Pos} {e : Expr} {es : List Expr} {te : TE} {fe : EM D} {t : TA} {f : EM (List D)}
theorem ar_nil : Arity zNil 0 := fun env S xs S1 h => by cases h; rfl
theorem ar_cons {n : Nat} (h : Arity f n) : Arity (zCons fe f) (n + 1) := fun env S xs S1 e => by
  unfold zCons at e
  cases h1 : fe env S with
  | stk => rw [h1] at e; cases e
  | exc x S => rw [h1] at e; cases e
  | ok x S2 =>
    rw [h1] at e
    simp only [Rs.bnd_ok] at e
    cases h2 : f env S2 with
    | stk => rw [h2] at e; cases e
    | exc x S => rw [h2] at e; cases e
    | ok ys S3 =>
      rw [h2] at e
      cases e
      simp [h _ _ _ _ h2]
theorem za_nil : ZA X W [] tNil zNil := ⟨pa_nil, fun fr m Hc env S σ H Q z zz p => p.use z rfl, ar_nil⟩
theorem za_cons (he : ZE X W e te fe) (hs : ZA X W es t f) (hst : starEach (e :: es) X.env = (false, eval e X.env) :: starEach es X.env := by rfl) : ZA X W (e :: es) (tCons te t) (zCons fe f) := by
  refine ⟨pa_cons he.pe hs.pa hst, ?_, ar_cons hs.ar⟩
  intro fr m Hc env S σ H Q z zz p
  refine he.sd fr m Hc env S σ H _ z zz (p.bnd fun x S1 v m1 Hc1 H1 x1 z1 r1 p1 => ?_)
  refine hs.sd fr m1 Hc1 env S1 σ H1 _ z1 (Ze.mono x1 zz) (p1.bnd fun xs S2 vs m2 Hc2 H2 x2 z2 r2 p2 => ?_)
  exact p2.use z2 ⟨v, vs, rfl, Rep.mono x2 _ _ r1, r2⟩
theorem ze_tup {j} (ha : ZA X W es t f) : ZE X W (.Tuple es j pos) (tTup t) (zTup f) := by
  refine ⟨pe_tup ha.pa, ?_⟩
  intro fr m Hc env S σ H Q z zz p
  refine ha.sd fr m Hc env S σ H _ z zz (p.bnd fun xs S1 vs m1 Hc1 H1 x1 z1 r1 p1 => ?_)
  by_cases h : xs.length ≤ bigN
  · rw [if_pos h] at p1
    refine ⟨by rw [r1.length]; exact big_le h, fun q hq => p1.useN z1 hq ?_⟩
    exact ⟨q, vs, rfl, upd_same, Reps.mono (z1.new hq).2 _ _ r1⟩
  · rw [if_neg h] at p1; exact p1.elim
theorem ze_lst (ha : ZA X W es t f) : ZE X W (.List es pos) (tLst t) (zLst f) := by
  refine ⟨pe_lst ha.pa, ?_⟩
  intro fr m Hc env S σ H Q z zz p
  refine ha.sd fr m Hc env S σ H _ z zz (p.bnd fun xs S1 vs m1 Hc1 H1 x1 z1 r1 p1 => ?_)
  by_cases h : xs.length ≤ bigN
  · rw [if_pos h] at p1
    refine ⟨by rw [r1.length]; exact big_le h, fun q hq => p1.useN z1 hq ?_⟩
    exact ⟨q, vs, rfl, upd_same, Reps.mono (z1.new hq).2 _ _ r1⟩
  · rw [if_neg h] at p1; exact p1.elim
theorem ze_lstC (ha : ZA X W es t f) : ZE X W (.List es pos) (tLst t) (zLstC f) := by
  refine ⟨pe_lst ha.pa, ?_⟩
  intro fr m Hc env S σ H Q z zz p
  refine ha.sd fr m Hc env S σ H _ z zz (p.bnd fun xs S1 vs m1 Hc1 H1 x1 z1 r1 p1 => ?_)
  by_cases h : xs.length ≤ bigN
  · rw [if_pos h] at p1
    exact ⟨by rw [r1.length]; exact big_le h, fun q hq => p1.useC z1 hq r1⟩
  · rw [if_neg h] at p1; exact p1.elim
end

/-! ### calls of built-ins by values -/
def CS (K : PySem.W.Frag) (mg : Mg) (r : List V → Hp → VK → Prop) (o : List D → Sto → Rs D) : Prop :=
  ∀ fr m Hc S H xs ds w Q, Zh K fr m Hc S H → Reps K Hc m ds xs → Pst K mg fr (fun Hc m d v => Rep K Hc m d v) m Hc w Q (o ds S) → r xs H Q
def zCall (o : List D → Sto → Rs D) (a : EM (List D)) : EM D := fun env S => (a env S).bnd fun xs S1 => o xs S1
section
variable {X : Cx} {W : WX} {pos p : Pos} {x : Str} {e : Expr} {es : List Expr} {t : TA} {f : EM (List D)} {r : List V → Hp → VK → Prop} {o : List D → Sto → Rs D} {id T : String}
theorem ze_callB (hc : CallR X (.builtin id) r) (hs : CS X.K X.mg r o) (hg : Gl X x) (hm : X.mg x = none) (hv : bootBuiltins x = some (.builtin id)) (ha : ZA X W (e :: es) t f) (hn : x ≠ "__name__" := by decide) (hdb : (x == ("__debug__" : Str)) = false := by decide)
    (he : starEach (e :: es) X.env = (false, eval e X.env) :: starEach es X.env := by rfl) (hpl : (backTo pos (starEach es X.env)).any (·.1) = false := by rfl) : ZE X W (.Call (.Name x p) (e :: es) [] pos) (tCB r t) (zCall o f) := by
  refine ⟨pe_callB hc hg hm hv ha.pa hn hdb he hpl, ?_⟩
  intro fr m Hc env S σ H Q z zz p
  refine ha.sd fr m Hc env S σ H _ z zz (p.bnd fun xs S1 vs m1 Hc1 H1 x1 z1 r1 p1 => ?_)
  exact hs fr m1 Hc1 S1 H1 vs xs _ Q z1 r1 p1
theorem ze_callT (hc : CallR X (.type T) r) (hs : CS X.K X.mg r o) (hg : Gl X x) (hm : X.mg x = none) (hv : bootBuiltins x = some (.type T)) (ha : ZA X W (e :: es) t f) (hn : x ≠ "__name__" := by decide) (hdb : (x == ("__debug__" : Str)) = false := by decide)
    (he : starEach (e :: es) X.env = (false, eval e X.env) :: starEach es X.env := by rfl) (hpl : (backTo pos (starEach es X.env)).any (·.1) = false := by rfl) : ZE X W (.Call (.Name x p) (e :: es) [] pos) (tCB r t) (zCall o f) := by
  refine ⟨pe_callTy hc hg hm hv ha.pa hn hdb he hpl, ?_⟩
  intro fr m Hc env S σ H Q z zz p
  refine ha.sd fr m Hc env S σ H _ z zz (p.bnd fun xs S1 vs m1 Hc1 H1 x1 z1 r1 p1 => ?_)
  exact hs fr m1 Hc1 S1 H1 vs xs _ Q z1 r1 p1
end
theorem Reps.one_of {K Hc m} {d : D} {vs : List V} (h : Reps K Hc m [d] vs) : ∃ v, vs = [v] ∧ Rep K Hc m d v := by
  obtain ⟨v, r, e, h1, h2⟩ := h
  cases h2
  exact ⟨v, e, h1⟩
theorem Reps.two_of {K Hc m} {d e : D} {vs : List V} (h : Reps K Hc m [d, e] vs) : ∃ v w, vs = [v, w] ∧ Rep K Hc m d v ∧ Rep K Hc m e w := by
  obtain ⟨v, r, e, h1, h2⟩ := h
  obtain ⟨w, h3, h4⟩ := Reps.one_of h2
  exact ⟨v, w, by rw [e, h3], h1, h4⟩
/-- len -/
def dLen (xs : List D) (S : Sto) : Rs D := match xs with
  | [.str z] => if z.length ≤ bigN then .ok (.int z.length) S else .stk
  | [d] => match anyOf d S with
    | some ds => .ok (.int ds.length) S
    | none => .stk
  | _ => .stk
def rLenZ (K : PySem.W.Frag) : List V → Hp → VK → Prop := fun xs H Q => ∃ x n, xs = [x] ∧ LenV K x H n ∧ Q (.int n) H
theorem cs_len {K mg} : CS K mg (rLenZ K) dLen := by
  intro fr m Hc S H xs ds w Q z r p
  unfold dLen at p
  split at p
  · rename_i zz
    obtain ⟨v, rfl, r1⟩ := r.one_of
    cases r1
    by_cases h : zz.length ≤ bigN
    · rw [if_pos h] at p
      exact ⟨_, zz.length, rfl, ⟨big_le h, rfl⟩, p.use z rfl⟩
    · rw [if_neg h] at p; exact p.elim
  · rename_i d _
    obtain ⟨v, rfl, r1⟩ := r.one_of
    cases e : anyOf d S with
    | none => simp [e] at p; exact p.elim
    | some es =>
      simp only [e] at p
      obtain ⟨a, vs, rfl, q, rr⟩ := z.any r1 e
      refine ⟨_, es.length, rfl, ?_, p.use z rfl⟩
      rcases q with q | q
      · exact .inl ⟨vs, q, rr.length.symm⟩
      · exact .inr ⟨vs, q, rr.length.symm⟩
  · exact p.elim
def dAbs (xs : List D) (S : Sto) : Rs D := match xs with
  | [.int i] => .ok (.int (if i < 0 then -i else i)) S
  | _ => .stk
theorem cs_abs {K mg} : CS K mg (fun xs H Q => ∃ i, xs = [.int i] ∧ Q (.int (if i < 0 then -i else i)) H) dAbs := by
  intro fr m Hc S H xs ds w Q z r p
  unfold dAbs at p
  split at p
  · obtain ⟨v, rfl, r1⟩ := r.one_of
    cases r1
    exact ⟨_, rfl, p.use z rfl⟩
  · exact p.elim
def dInt (xs : List D) (S : Sto) : Rs D := match xs with
  | [.int i] => .ok (.int i) S
  | [.bl k] => .ok (.int (if k then 1 else 0)) S
  | _ => .stk
theorem cs_int {K mg} : CS K mg (fun xs H Q => (∃ i, xs = [.int i] ∧ Q (.int i) H) ∨ ∃ k, xs = [.bl k] ∧ Q (.int (if k then 1 else 0)) H) dInt := by
  intro fr m Hc S H xs ds w Q z r p
  unfold dInt at p
  split at p
  · obtain ⟨v, rfl, r1⟩ := r.one_of
    cases r1
    exact .inl ⟨_, rfl, p.use z rfl⟩
  · obtain ⟨v, rfl, r1⟩ := r.one_of
    cases r1
    exact .inr ⟨_, rfl, p.use z rfl⟩
  · exact p.elim
def dBool (xs : List D) (S : Sto) : Rs D := match xs with
  | [.int i] => .ok (.bl (i != 0)) S
  | [.bl k] => .ok (.bl k) S
  | _ => .stk
def dMin2 (xs : List D) (S : Sto) : Rs D := match xs with
  | [.int i, .int j] => .ok (.int (if j < i then j else i)) S
  | _ => .stk
def dMax2 (xs : List D) (S : Sto) : Rs D := match xs with
  | [.int i, .int j] => .ok (.int (if j > i then j else i)) S
  | _ => .stk
theorem cs_max2 {K mg} : CS K mg (fun xs H Q => ∃ i j, xs = [.int i, .int j] ∧ Q (.int (if j > i then j else i)) H) dMax2 := by
  intro fr m Hc S H xs ds w Q z r p
  unfold dMax2 at p
  split at p
  · obtain ⟨v, w, rfl, r1, r'⟩ := r.two_of
    cases r1; cases r'
    exact ⟨_, _, rfl, p.use z rfl⟩
  · exact p.elim
/-- tuple(list) -/
def dTuple (xs : List D) (S : Sto) : Rs D := match xs with
  | [.tup ds] => .ok (.tup ds) S
  | [.rot ds] => .ok (.rot ds) S
  | [d] => match seqOf d S with
    | some ds => .ok (.tup ds) S
    | none => .stk
  | _ => .stk
theorem cs_tuple {K mg} : CS K mg (fun xs H Q => ∃ p ys, xs = [.ref p] ∧ ((SqL K H p ys ∧ ∀ l, H l = none → Q (.ref l) (upd H l (.tup ys))) ∨ (SqT K H p ys ∧ Q (.ref p) H))) dTuple := by
  intro fr m Hc S H xs ds w Q z r p
  unfold dTuple at p
  split at p
  · obtain ⟨v, rfl, r1⟩ := r.one_of
    obtain ⟨a, vs, rfl, q, rr⟩ := r1
    exact ⟨a, vs, rfl, .inr ⟨.of (z.sub _ _ q), p.use z ⟨a, vs, rfl, q, rr⟩⟩⟩
  · obtain ⟨v, rfl, r1⟩ := r.one_of
    obtain ⟨a, vs, rfl, q, rr⟩ := r1
    exact ⟨a, vs, rfl, .inr ⟨Same.tupT z.sub q, p.use z ⟨a, vs, rfl, q, rr⟩⟩⟩
  · rename_i d _ _
    obtain ⟨v, rfl, r1⟩ := r.one_of
    cases e : seqOf d S with
    | none => simp [e] at p; exact p.elim
    | some es =>
      simp only [e] at p
      obtain ⟨a, vs, rfl, q, rr⟩ := z.seq r1 e
      refine ⟨a, vs, rfl, .inl ⟨q, fun l hl => p.useN z hl ?_⟩⟩
      exact ⟨l, vs, rfl, upd_same, Reps.mono (z.new hl).2 _ _ rr⟩
  · exact p.elim
/-- list(..): frozen, or mutable -/
def dList (xs : List D) (S : Sto) : Rs D := match xs with
  | [d] => match anyOf d S with
    | some ds => .ok (.lst ds) S
    | none => .stk
  | _ => .stk
def rListOf (K : PySem.W.Frag) : List V → Hp → VK → Prop := fun xs H Q => ∃ p ys, xs = [.ref p] ∧ (SqL K H p ys ∨ SqT K H p ys) ∧ ∀ l, H l = none → Q (.ref l) (upd H l (.lst ys))
theorem cs_list {K mg} : CS K mg (rListOf K) dList := by
  intro fr m Hc S H xs ds w Q z r p
  unfold dList at p
  split at p
  · rename_i d
    obtain ⟨v, rfl, r1⟩ := r.one_of
    cases e : anyOf d S with
    | none => simp [e] at p; exact p.elim
    | some es =>
      simp only [e] at p
      obtain ⟨a, vs, rfl, q, rr⟩ := z.any r1 e
      refine ⟨a, vs, rfl, q, fun l hl => p.useN z hl ?_⟩
      exact ⟨l, vs, rfl, upd_same, Reps.mono (z.new hl).2 _ _ rr⟩
  · exact p.elim
/-! ### slices -/
def cutD (xs : List D) (lo hi : Option Int) : List D := (xs.drop (HT.sIx xs.length 0 lo)).take (HT.sIx xs.length xs.length hi - HT.sIx xs.length 0 lo)
theorem Reps.cut {K Hc m} {ds : List D} {vs : List V} (h : Reps K Hc m ds vs) (lo hi : Option Int) : Reps K Hc m (cutD ds lo hi) (cutV vs lo hi) := by
  unfold cutD cutV
  rw [h.length]
  exact (h.drop _).take _
abbrev EO := EM (Option Int)
structure ZP (X : Cx) (W : WX) (e : Option Expr) (t : TO) (f : EO) : Prop where
  po : PO X e t
  sd : ∀ fr m Hc env S σ H Q, Zh X.K fr m Hc S H → Ze X.K Hc m env σ → Pst X.K X.mg fr (fun _ _ a b => a = b) m Hc (fun c o H => W c o σ H) Q (f env S) → t σ H Q
def zNoPart : EO := fun _ S => .ok none S
def zPart (a : EM D) : EO := fun env S => (a env S).bnd fun x S1 => match x with
  | .int i => .ok (some i) S1
  | _ => .stk
def dSl (x : D) (lo hi : Option Int) (S : Sto) : Rs D := match x with
  | .tup ds => .ok (.tup (cutD ds lo hi)) S
  | d => match seqOf d S with
    | some ds => .ok (.lst (cutD ds lo hi)) S
    | none => .stk
def zSl (a : EM D) (lo hi : EO) : EM D := fun env S => (a env S).bnd fun x S1 => (lo env S1).bnd fun l S2 => (hi env S2).bnd fun u S3 => dSl x l u S3
def rSlZ (K : PySem.W.Frag) : V → Option Int → Option Int → Hp → VK → Prop := fun x lo hi H Q => rSlL K x lo hi H Q ∨ rSlA K x lo hi H Q
section
variable {X : Cx} {W : WX} {pos p2 : Pos} {e : Expr} {lo hi : Option Expr} {te : TE} {fe : EM D} {tl th : TO} {fl fh : EO}
theorem zp_none : ZP X W none tNoPart zNoPart := ⟨po_none, fun fr m Hc env S σ H Q z zz p => p.use z rfl⟩
theorem zp_some (he : ZE X W e te fe) : ZP X W (some e) (tPart te) (zPart fe) := by
  refine ⟨po_some he.pe, ?_⟩
  intro fr m Hc env S σ H Q z zz p
  refine he.sd fr m Hc env S σ H _ z zz (p.bnd fun x S1 v m1 Hc1 H1 x1 z1 r1 p1 => ?_)
  cases x <;> first | exact p1.elim | skip
  cases r1
  exact ⟨_, rfl, p1.use z1 rfl⟩
theorem ze_sl (he : ZE X W e te fe) (hl : ZP X W lo tl fl) (hu : ZP X W hi th fh) : ZE X W (.Subscript e (.Slice lo hi none p2) pos) (tSl (rSlZ X.K) te tl th) (zSl fe fl fh) := by
  refine ⟨pe_slice (sl_list.or sl_tupA) he.pe hl.po hu.po, ?_⟩
  intro fr m Hc env S σ H Q z zz p
  refine he.sd fr m Hc env S σ H _ z zz (p.bnd fun x S1 v m1 Hc1 H1 x1 z1 r1 p1 => ?_)
  refine hl.sd fr m1 Hc1 env S1 σ H1 _ z1 (Ze.mono x1 zz) (p1.bnd fun l S2 l' m2 Hc2 H2 x2 z2 r2 p2 => ?_)
  refine hu.sd fr m2 Hc2 env S2 σ H2 _ z2 (Ze.mono (x1.trans x2) zz) (p2.bnd fun u S3 u' m3 Hc3 H3 x3 z3 r3 p3 => ?_)
  cases r2; cases r3
  have rx := Rep.mono (x2.trans x3) _ _ r1
  have lst : ∀ ds, seqOf x S3 = some ds → Pst X.K X.mg fr (fun Hc m d v => Rep X.K Hc m d v) m3 Hc3 (fun c o H => W c o σ H) Q (.ok (.lst (cutD ds l u)) S3) → rSlZ X.K v l u H3 Q := fun ds e p => by
    obtain ⟨a, vs, rfl, q, rr⟩ := z3.seq rx e
    refine .inl ⟨a, vs, rfl, q, fun b hb => p.useN z3 hb ?_⟩
    exact ⟨b, _, rfl, upd_same, Reps.mono (z3.new hb).2 _ _ (rr.cut l u)⟩
  unfold dSl at p3
  cases x with
  | tup ds =>
    obtain ⟨a, vs, rfl, q, rr⟩ := rx
    refine .inr ⟨a, vs, rfl, .of (z3.sub _ _ q), fun hw => ?_, fun _ b hb => p3.useN z3 hb ?_⟩
    · refine p3.use z3 ⟨a, vs, rfl, q, ?_⟩
      have : cutD ds l u = ds := by
        unfold cutD
        rw [← rr.length, hw.1, hw.2]
        simp [rr.length]
      rw [this]; exact rr
    · exact ⟨b, _, rfl, upd_same, Reps.mono (z3.new hb).2 _ _ (rr.cut l u)⟩
  | lst ds => exact lst ds rfl p3
  | rol ds => exact lst _ rfl p3
  | ptr n =>
    cases h : seqOf (.ptr n) S3 with
    | none => simp [h] at p3; exact p3.elim
    | some ds => simp only [h] at p3; exact lst ds h p3
  | _ => exact p3.elim
end
end Z

namespace Z
open PySem L2
open PySem.Spec PyProof.Rows
variable [Tabs] [Hot]

/-! ### statements -/
inductive Fl where
  | next (env : En) | ret (d : D) | brk (env : En) | cnt (env : En) | exc (e : XV) (env : En)
inductive Ss where
  | mk (fl : Fl) (S : Sto) | stk
abbrev SM := En → Sto → Ss
/-- from an expression to a statement -/
def Rs.st {α : Type} (r : Rs α) (env : En) (k : α → Sto → Ss) : Ss := match r with
  | .ok a S => k a S
  | .exc e S => .mk (.exc e env) S
  | .stk => .stk
@[simp] theorem Rs.st_ok {α : Type} (a : α) (S : Sto) (env : En) (k : α → Sto → Ss) : (Rs.ok a S).st env k = k a S := rfl
@[simp] theorem Rs.st_exc {α : Type} (a : XV) (S : Sto) (env : En) (k : α → Sto → Ss) : (Rs.exc a S : Rs α).st env k = .mk (.exc a env) S := rfl
@[simp] theorem Rs.st_stk {α : Type} (env : En) (k : α → Sto → Ss) : (Rs.stk : Rs α).st env k = .stk := rfl
def PstS (K : PySem.W.Frag) (mg : Mg) (fr : List (Addr × HO)) (m : List Addr) (Hc : Hp) (W : WX) (E : Ends) : Ss → Prop
  | .mk (.next env') S' => ∀ σ' m' Hc' H', Ex m Hc m' Hc' → Zh K fr m' Hc' S' H' → Ze K Hc' m' env' σ' → E.nx σ' H'
  | .mk (.ret d) S' => ∀ v m' Hc' H', Ex m Hc m' Hc' → Zh K fr m' Hc' S' H' → Rep K Hc' m' d v → E.rt v H'
  | .mk (.brk env') S' => ∀ σ' m' Hc' H', Ex m Hc m' Hc' → Zh K fr m' Hc' S' H' → Ze K Hc' m' env' σ' → E.bk σ' H'
  | .mk (.cnt env') S' => ∀ σ' m' Hc' H', Ex m Hc m' Hc' → Zh K fr m' Hc' S' H' → Ze K Hc' m' env' σ' → E.ct σ' H'
  | .mk (.exc e env') S' => ∀ σ' cls od m' Hc' H', Ex m Hc m' Hc' → Zh K fr m' Hc' S' H' → Ze K Hc' m' env' σ' → RepX K mg Hc' m' e cls od H' → W cls od σ' H'
  | .stk => False
theorem PstS.mono {K mg fr m Hc m' Hc' W E} {r : Ss} (x : Ex m Hc m' Hc') (h : PstS K mg fr m Hc W E r) : PstS K mg fr m' Hc' W E r := by
  cases r with
  | stk => exact h
  | mk fl S =>
    cases fl with
    | next env => exact fun a b c d y z q => h a b c d (x.trans y) z q
    | ret env => exact fun a b c d y z q => h a b c d (x.trans y) z q
    | brk env => exact fun a b c d y z q => h a b c d (x.trans y) z q
    | cnt env => exact fun a b c d y z q => h a b c d (x.trans y) z q
    | exc e env => exact fun a b c d e' f y z q q' => h a b c d e' f (x.trans y) z q q'
/-- from a statement's wish to an expression's -/
theorem PstS.bnd {α β : Type} {K mg fr m Hc W E} {rel : Hp → List Addr → α → β → Prop} {r : Rs α} {env : En} {σ : L2.St} {k : α → Sto → Ss} {T : β → Hp → Prop} (zz : Ze K Hc m env σ) (h : PstS K mg fr m Hc W E (r.st env k))
    (hk : ∀ a S1 b m1 Hc1 H1, Ex m Hc m1 Hc1 → Zh K fr m1 Hc1 S1 H1 → rel Hc1 m1 a b → PstS K mg fr m1 Hc1 W E (k a S1) → T b H1) : Pst K mg fr rel m Hc (fun c o H => W c o σ H) T r := by
  cases r with
  | ok a S => exact fun b m1 H1 H' x z q => hk a S b m1 H1 H' x z q (PstS.mono x h)
  | exc e S => exact fun c o m1 H1 H' x z q => h σ c o m1 H1 H' x z (Ze.mono x zz) q
  | stk => exact h
def SS (K : PySem.W.Frag) (mg : Mg) (W : WX) (t : TS) (f : SM) : Prop :=
  ∀ fr m Hc env S σ H E, Zh K fr m Hc S H → Ze K Hc m env σ → PstS K mg fr m Hc W E (f env S) → t E σ H
structure ZS (X : Cx) (W : WX) (st : Stmt) (t : TS) (f : SM) : Prop where
  ps : PS X st t
  sd : SS X.K X.mg W t f
structure ZSs (X : Cx) (W : WX) (st : List Stmt) (t : TS) (f : SM) : Prop where
  ps : PSs X st t
  sd : SS X.K X.mg W t f
def zNext : SM := fun env S => .mk (.next env) S
def Ss.seq (r : Ss) (k : SM) : Ss := match r with
  | .mk (.next env) S => k env S
  | r => r
@[simp] theorem Ss.seq_next (env : En) (S : Sto) (k : SM) : (Ss.mk (.next env) S).seq k = k env S := rfl
@[simp] theorem Ss.seq_ret (d : D) (S : Sto) (k : SM) : (Ss.mk (.ret d) S).seq k = .mk (.ret d) S := rfl
@[simp] theorem Ss.seq_brk (d : En) (S : Sto) (k : SM) : (Ss.mk (.brk d) S).seq k = .mk (.brk d) S := rfl
@[simp] theorem Ss.seq_cnt (d : En) (S : Sto) (k : SM) : (Ss.mk (.cnt d) S).seq k = .mk (.cnt d) S := rfl
@[simp] theorem Ss.seq_exc (e : XV) (d : En) (S : Sto) (k : SM) : (Ss.mk (.exc e d) S).seq k = .mk (.exc e d) S := rfl
@[simp] theorem Ss.seq_stk (k : SM) : Ss.stk.seq k = .stk := rfl
def zSeq (a b : SM) : SM := fun env S => (a env S).seq b
def zStk : SM := fun _ _ => .stk
section
variable {X : Cx} {W : WX} {pos : Pos} {st : Stmt} {rest : List Stmt} {t u : TS} {f g : SM} {e c : Expr} {te : TE} {fe : EM D} {tc : TT} {gc : EM Bool}
theorem zss_nil : ZSs X W [] tNext zNext := ⟨pss_nil, fun fr m Hc env S σ H E z zz p => p σ m Hc H (Ex.refl _ _) z zz⟩
theorem zss_cons (h1 : ZS X W st t f) (h2 : ZSs X W rest u g) : ZSs X W (st :: rest) (tSeq t u) (zSeq f g) := by
  refine ⟨pss_cons h1.ps h2.ps, ?_⟩
  intro fr m Hc env S σ H E z zz p
  refine h1.sd fr m Hc env S σ H _ z zz ?_
  unfold zSeq at p
  cases h : f env S with
  | stk => rw [h] at p; exact p
  | mk fl S1 =>
    rw [h] at p
    cases fl with
    | next env1 => exact fun σ' m' Hc' H' x z' zz' => h2.sd fr m' Hc' env1 S1 σ' H' E z' zz' (PstS.mono x p)
    | ret d => exact p
    | brk d => exact p
    | cnt d => exact p
    | exc e d => exact p
theorem zss_one (h1 : ZS X W st t f) : ZSs X W [st] t f := ⟨pss_one h1.ps, h1.sd⟩
def zBrk : SM := fun env S => .mk (.brk env) S
def zCnt : SM := fun env S => .mk (.cnt env) S
theorem zs_break : ZS X W (.Break pos) tBreak zBrk := ⟨ps_break, fun fr m Hc env S σ H E z zz p => p σ m Hc H (Ex.refl _ _) z zz⟩
theorem zs_never : ZS X W st tNever zStk := ⟨ps_never, fun fr m Hc env S σ H E z zz p => p⟩
def zExpr (a : EM D) : SM := fun env S => (a env S).st env fun _ S1 => .mk (.next env) S1
theorem zs_expr (he : ZE X W e te fe) (hs : swapsWith e none pos.line X.env = pure false := by rfl) : ZS X W (.Expr e pos) (tDrop te) (zExpr fe) := by
  refine ⟨ps_expr he.pe hs, ?_⟩
  intro fr m Hc env S σ H E z zz p
  refine he.sd fr m Hc env S σ H _ z zz (p.bnd zz fun d S1 v m1 Hc1 H1 x1 z1 r1 p1 => ?_)
  exact p1 σ m1 Hc1 H1 (Ex.refl _ _) z1 (Ze.mono x1 zz)
def zRet (a : EM D) : SM := fun env S => (a env S).st env fun d S1 => .mk (.ret d) S1
theorem zs_ret (he : ZE X W e te fe) : ZS X W (.Return (some e) pos) (tRet te) (zRet fe) := by
  refine ⟨ps_ret he.pe, ?_⟩
  intro fr m Hc env S σ H E z zz p
  refine he.sd fr m Hc env S σ H _ z zz (p.bnd zz fun d S1 v m1 Hc1 H1 x1 z1 r1 p1 => ?_)
  exact p1 v m1 Hc1 H1 (Ex.refl _ _) z1 r1
def zRetN : SM := fun env S => .mk (.ret .non) S
def zIfS (c : EM Bool) (a b : SM) : SM := fun env S => (c env S).st env fun k S1 => if k = true then a env S1 else b env S1
theorem zs_if {a b : List Stmt} (hc : ZT X W c tc gc) (ha : ZSs X W a t f) (hb : ZSs X W b u g) : ZS X W (.If c a b pos) (tIfS tc t u) (zIfS gc f g) := by
  refine ⟨ps_if hc.pt ha.ps hb.ps, ?_⟩
  intro fr m Hc env S σ H E z zz p
  refine hc.sd fr m Hc env S σ H _ z zz (p.bnd zz fun k S1 k' m1 Hc1 H1 x1 z1 r1 p1 => ?_)
  cases r1
  cases k with
  | true => exact iteT (ha.sd fr m1 Hc1 env S1 σ H1 E z1 (Ze.mono x1 zz) p1)
  | false => exact iteF (hb.sd fr m1 Hc1 env S1 σ H1 E z1 (Ze.mono x1 zz) p1)
end

/-! ### targets -/
abbrev GM := D → En → Option En
/-- slots: which the target stores -/
def SG (K : PySem.W.Frag) (t : TG) (sl : List Nat) (g : GM) : Prop :=
  ∀ fr m Hc S H v d env env' σ Q, Zh K fr m Hc S H → Rep K Hc m d v → Ze K Hc m env σ → g d env = some env' → (∀ σ', Ze K Hc m env' σ' → (∀ vs, (∀ i ∈ sl, i ∈ vs) → wipe σ' vs = wipe σ vs) → Q σ' H) → t v σ H Q
def SGs (K : PySem.W.Frag) (t : TGs) (sl : List Nat) (g : List D → En → Option En) : Prop :=
  ∀ fr m Hc S H vs ds env env' σ Q, Zh K fr m Hc S H → Reps K Hc m ds vs → Ze K Hc m env σ → g ds env = some env' → (∀ σ', Ze K Hc m env' σ' → (∀ vs, (∀ i ∈ sl, i ∈ vs) → wipe σ' vs = wipe σ vs) → Q σ' H) → t vs σ H Q
structure ZG (X : Cx) (e : Expr) (t : TG) (sl : List Nat) (g : GM) : Prop where
  pg : PG X e t
  sd : SG X.K t sl g
structure ZGs (X : Cx) (es : List Expr) (t : TGs) (sl : List Nat) (g : List D → En → Option En) : Prop where
  pg : PGs X es t
  sd : SGs X.K t sl g
def zgName (i : Nat) : GM := fun d env => some (env.set i (some d))
def zgNil : List D → En → Option En
  | [], env => some env
  | _, _ => none
def zgCons (g : GM) (gs : List D → En → Option En) : List D → En → Option En
  | d :: ds, env => match g d env with
    | some e => gs ds e
    | none => none
  | _, _ => none
def zgTup (n : Nat) (gs : List D → En → Option En) : GM := fun d env => match d with
  | .tup ds => if ds.length = n then gs ds env else none
  | _ => none
theorem wipe_set {σ : L2.St} {i : Nat} {v : Option V} : ∀ {vs : List Nat}, i ∈ vs → wipe (σ.set i v) vs = wipe σ vs
  | [], h => by cases h
  | w :: vs, h => by
    show (wipe (σ.set i v) vs).set w none = (wipe σ vs).set w none
    by_cases hw : i ∈ vs
    · rw [wipe_set hw]
    · have e : w = i := by
        rcases List.mem_cons.mp h with e1 | e1
        · exact e1.symm
        · exact absurd e1 hw
      subst e
      have q : ∀ (vs : List Nat), w ∉ vs → wipe (σ.set w v) vs = (wipe σ vs).set w v := by
        intro vs
        induction vs with
        | nil => intro _; rfl
        | cons u us ih =>
          intro hn
          have h1 : u ≠ w := fun e => hn (by rw [e]; exact List.mem_cons_self)
          have h2 : w ∉ us := fun e => hn (List.mem_cons_of_mem _ e)
          show (wipe (σ.set w v) us).set u none = ((wipe σ us).set u none).set w v
          rw [ih h2, List.set_comm _ _ h1]
      rw [q vs hw, List.set_set]
section
variable {X : Cx} {pos : Pos} {e : Expr} {es : List Expr} {t : TG} {ts : TGs} {sl sl2 : List Nat} {g : GM} {gs : List D → En → Option En}
theorem zg_name {i : Nat} {x : Str} (hN : X.N.Nodup) (hi : X.N[i]? = some x := by rfl) (hx : Loc X.env.scope x := by first | exact .inl rfl | exact .inr rfl) (hf : X.fn x = true ∨ X.env.scope.names.lookup x = some .local := by first | exact .inl rfl | exact .inr rfl) (hot : Hot.free i := by exact trivial) : ZG X (.Name x pos) (gName i) [i] (zgName i) := by
  refine ⟨pg_name hN hi hx hf, ?_⟩
  intro fr m Hc S H v d env env' σ Q z r zz eg q
  cases eg
  exact q _ (zz.set i r hot) fun vs hv => wipe_set (hv i List.mem_cons_self)
theorem zgs_nil : ZGs X [] gNil [] zgNil := by
  refine ⟨pgs_nil, ?_⟩
  intro fr m Hc S H vs ds env env' σ Q z r zz eg q
  cases ds with
  | nil => cases r; cases eg; exact ⟨rfl, q σ zz fun _ _ => rfl⟩
  | cons d ds => cases eg
theorem zgs_cons (h1 : ZG X e t sl g) (h2 : ZGs X es ts sl2 gs) (hs : (assignEach (e :: es) X.env).map (·.2) = assign e X.env :: (assignEach es X.env).map (·.2) := by rfl) : ZGs X (e :: es) (gCons t ts) (sl ++ sl2) (zgCons g gs) := by
  refine ⟨pgs_cons h1.pg h2.pg hs, ?_⟩
  intro fr m Hc S H vs ds env env' σ Q z r zz eg q
  cases ds with
  | nil => cases eg
  | cons d ds =>
    obtain ⟨v, r', rfl, r1, r2⟩ := r
    unfold zgCons at eg
    cases h : g d env with
    | none => simp [h] at eg
    | some env1 =>
      simp only [h] at eg
      refine ⟨v, r', rfl, h1.sd fr m Hc S H v d env env1 σ _ z r1 zz h fun σ1 zz1 w1 => ?_⟩
      refine h2.sd fr m Hc S H r' ds env1 env' σ1 _ z r2 zz1 eg fun σ2 zz2 w2 => ?_
      exact q σ2 zz2 fun vs hv => (w2 vs fun i hi => hv i (List.mem_append_right _ hi)).trans (w1 vs fun i hi => hv i (List.mem_append_left _ hi))
theorem zg_tupK {K : PySem.W.Frag} {k n : Nat} (hK : X.K = K) (hc : X.calm = true) (h : ZGs X es ts sl gs) (hn : (assignEach es X.env).length = n := by rfl) (hst : (assignEach es X.env).findIdx? (·.1) = none := by rfl) : ZG X (.Tuple es k pos) (gTup K n ts) sl (zgTup n gs) := by
  subst hK
  refine ⟨pg_tup hc h.pg hn hst, ?_⟩
  intro fr m Hc S H v d env env' σ Q z r zz eg q
  cases d <;> first | cases eg; done | skip
  rename_i ds
  obtain ⟨a, vs, rfl, hq, rr⟩ := r
  unfold zgTup at eg
  by_cases hl : ds.length = n
  · simp only [hl, if_true] at eg
    exact ⟨a, vs, rfl, .of (z.sub _ _ hq), by rw [rr.length]; exact hl, h.sd fr m Hc S H vs ds env env' σ Q z rr zz eg q⟩
  · simp only [hl] at eg; cases eg
end
/-- target = e -/
def zAsg (a : EM D) (g : GM) : SM := fun env S => (a env S).st env fun d S1 => match g d env with
  | some env' => .mk (.next env') S1
  | none => .stk
def zSet (i : Nat) (a : EM D) : SM := fun env S => (a env S).st env fun d S1 => .mk (.next (env.set i (some d))) S1
section
variable {X : Cx} {W : WX} {pos pos' : Pos} {e tg : Expr} {te : TE} {fe : EM D} {t : TG} {sl : List Nat} {g : GM}
theorem ss_asg {K mg} (he : SE K mg W te fe) (hg : SG K t sl g) : SS K mg W (tAsg te t) (zAsg fe g) := by
  intro fr m Hc env S σ H E z zz p
  refine he fr m Hc env S σ H _ z zz (p.bnd zz fun d S1 v m1 Hc1 H1 x1 z1 r1 p1 => ?_)
  cases h : g d env with
  | none => simp [h] at p1; exact p1.elim
  | some env' =>
    simp only [h] at p1
    exact hg fr m1 Hc1 S1 H1 v d env env' σ _ z1 r1 (Ze.mono x1 zz) h fun σ' zz' _ => p1 σ' m1 Hc1 H1 (Ex.refl _ _) z1 zz'
theorem zs_asg (he : ZE X W e te fe) (hg : ZG X tg t sl g) (hs : swapsWithSole [tg] e pos.line X.env = pure false := by rfl) (hw : swappedStores [tg] e X.env = pure none := by rfl) (h1 : (assignEach [tg] X.env).map (·.2) = [assign tg X.env] := by rfl) :
    ZS X W (.Assign [tg] e pos) (tAsg te t) (zAsg fe g) := ⟨ps_asg he.pe hg.pg hs hw h1, ss_asg he.sd hg.sd⟩
theorem ss_set {K mg} {i : Nat} (he : SE K mg W te fe) (hot : Hot.free i := by exact trivial) : SS K mg W (tAsg te (gName i)) (zSet i fe) := by
  intro fr m Hc env S σ H E z zz p
  refine he fr m Hc env S σ H _ z zz (p.bnd zz fun d S1 v m1 Hc1 H1 x1 z1 r1 p1 => ?_)
  exact p1 _ m1 Hc1 H1 (Ex.refl _ _) z1 ((Ze.mono x1 zz).set i r1 hot)
theorem zs_set {i : Nat} {x : Str} (hN : X.N.Nodup) (he : ZE X W e te fe) (hi : X.N[i]? = some x := by rfl) (hx : Loc X.env.scope x := by first | exact .inl rfl | exact .inr rfl) (hs : swapsWith e (some (.Name x pos')) pos.line X.env = pure false := by rfl) (hf : X.fn x = true ∨ X.env.scope.names.lookup x = some .local := by first | exact .inl rfl | exact .inr rfl) (hot : Hot.free i := by exact trivial) :
    ZS X W (.Assign [.Name x pos'] e pos) (tAsg te (gName i)) (zSet i fe) := ⟨ps_set hN hi hx he.pe hs hf, ss_set he.sd hot⟩
end
/-! o[i] = e -/
def stSet (o i v : D) (S : Sto) : Option Sto := match o, i with
  | .ptr n, .int k => match S[n]? with
    | some (.lst ds) => match ixN ds.length k with
      | some j => some (S.set n (.lst (ds.set j v)))
      | none => none
    | _ => none
  | _, _ => none
def zPut (o i e : EM D) : SM := fun env S => (e env S).st env fun v S1 => (o env S1).st env fun x S2 => (i env S2).st env fun y S3 => match stSet x y v S3 with
  | some S4 => .mk (.next env) S4
  | none => .stk
theorem stSet_ok {K fr m Hc S H S'} {o i v : D} {ov iv vv : V} {Q : Hp → Prop} (z : Zh K fr m Hc S H) (ro : Rep K Hc m o ov) (ri : Rep K Hc m i iv) (rv : Rep K Hc m v vv) (e : stSet o i v S = some S') (q : ∀ H', Zh K fr m Hc S' H' → Q H') : rSetL ov iv vv H Q := by
  unfold stSet at e
  cases o <;> first | cases e; done | skip
  cases i <;> first | cases e; done | skip
  rename_i n k
  obtain ⟨a, rfl, hn⟩ := ro
  cases ri
  cases h : S[n]? with
  | none => simp [h] at e
  | some c =>
    cases c with
    | gone => simp [h] at e
    | dct ks0 ds0 => simp [h] at e
    | dtt lk0 ks0 ds0 => simp [h] at e
    | obj nm0 ks0 ds0 => simp [h] at e
    | lst ds =>
      simp only [h] at e
      obtain ⟨_, vs, h1, h2⟩ := z.cel n a _ hn h
      cases h3 : ixN ds.length k with
      | none => simp [h3] at e
      | some j =>
        simp only [h3] at e
        cases e
        exact ⟨a, vs, k, j, rfl, rfl, h1, by rw [h2.length]; exact h3, q _ (z.wr hn h (h2.set j rv))⟩
section
variable {X : Cx} {W : WX} {pos tpos : Pos} {o i e : Expr} {to ti te : TE} {fo fi fe : EM D} {tip : TIp} {op : Operator} {o' : D → D → Sto → Rs D} {r : R2}
theorem zs_put (ho : ZE X W o to fo) (hi : ZE X W i ti fi) (he : ZE X W e te fe) (hs : swapsWithSole [.Subscript o i tpos] e pos.line X.env = pure false := by rfl) (hw : swappedStores [.Subscript o i tpos] e X.env = pure none := by rfl)
    (ha : ∀ v, assign (.Subscript o i tpos) X.env v = (do
      let a ← holding [v] (eval o X.env); let b ← holding [v, a] (eval i X.env)
      standAt tpos; holding [v, a, b] (setItem a b v); release [v, a, b] []) := by intro _; rfl) : ZS X W (.Assign [.Subscript o i tpos] e pos) (tAsg te (gSub to ti rSetL)) (zPut fo fi fe) := by
  refine ⟨ps_asg he.pe (pg_sub ho.pe hi.pe set_list ha) hs hw, ?_⟩
  intro fr m Hc env S σ H E z zz p
  refine he.sd fr m Hc env S σ H _ z zz (p.bnd zz fun d S1 v m1 Hc1 H1 x1 z1 r1 p1 => ?_)
  refine ho.sd fr m1 Hc1 env S1 σ H1 _ z1 (Ze.mono x1 zz) (p1.bnd (Ze.mono x1 zz) fun x S2 ov m2 Hc2 H2 x2 z2 r2 p2 => ?_)
  have zz2 := Ze.mono (x1.trans x2) zz
  refine hi.sd fr m2 Hc2 env S2 σ H2 _ z2 zz2 (p2.bnd zz2 fun y S3 iv m3 Hc3 H3 x3 z3 r3 p3 => ?_)
  cases h : stSet x y d S3 with
  | none => simp [h] at p3; exact p3.elim
  | some S4 =>
    simp only [h] at p3
    exact stSet_ok z3 (Rep.mono x3 _ _ r2) r3 (Rep.mono (x2.trans x3) _ _ r1) h fun H' z' => p3 σ m3 Hc3 H' (Ex.refl _ _) z' (Ze.mono x3 zz2)
/-- name op= e -/
def zAug (i : Nat) (o : D → D → Sto → Rs D) (a : EM D) : SM := fun env S => match env[i]? with
  | some (some d) => (a env S).st env fun y S1 => (o d y S1).st env fun w S2 => .mk (.next (env.set i (some w))) S2
  | _ => .stk
theorem zs_aug {k : Nat} {x : Str} {pos' : Pos} (hN : X.N.Nodup) (he : ZE X W e te fe) (ho : ZO X (inplaceOp op) r o') (hi : X.N[k]? = some x := by rfl) (hx : Loc X.env.scope x := by first | exact .inl rfl | exact .inr rfl) (hf : X.fn x = true ∨ X.env.scope.names.lookup x = some .local := by first | exact .inl rfl | exact .inr rfl) (hot : Hot.free k := by exact trivial) :
    ZS X W (.AugAssign (.Name x pos') op e pos) (tAug k te r) (zAug k o' fe) := by
  refine ⟨ps_aug hN hi hx he.pe ho.op hf, ?_⟩
  intro fr m Hc env S σ H E z zz p
  unfold zAug at p
  cases h : env[k]? with
  | none => simp [h] at p; exact p.elim
  | some q =>
    cases q with
    | none => simp [h] at p; exact p.elim
    | some d =>
      simp only [h] at p
      obtain ⟨v, h1, h2⟩ := zz.at_ k d h
      refine ⟨v, h1, he.sd fr m Hc env S σ H _ z zz (p.bnd zz fun y S1 u m1 Hc1 H1 x1 z1 r1 p1 => ?_)⟩
      have zz1 := Ze.mono x1 zz
      refine ho.sd fr m1 Hc1 S1 H1 v u d y _ _ z1 (Rep.mono x1 _ _ h2) r1 (p1.bnd zz1 fun w S2 wv m2 Hc2 H2 x2 z2 r2 p2 => ?_)
      exact p2 _ m2 Hc2 H2 (Ex.refl _ _) z2 ((Ze.mono x2 zz1).set k r2 hot)
/-- o[i] op= e -/
def ptrAt (x y : D) (S : Sto) : Option D := match x, y with
  | .ptr n, .int k => match S[n]? with
    | some (.lst ds) => L2.atI ds k
    | _ => none
  | _, _ => none
theorem ptrAt_ok {K fr m Hc S H} {x y d : D} {ov iv : V} {Q : VK} (z : Zh K fr m Hc S H) (ro : Rep K Hc m x ov) (ri : Rep K Hc m y iv) (e : ptrAt x y S = some d) (q : ∀ v, Rep K Hc m d v → Q v H) : rIxL K ov iv H Q := by
  unfold ptrAt at e
  cases x <;> first | cases e; done | skip
  cases y <;> first | cases e; done | skip
  rename_i n k
  obtain ⟨a, rfl, hn⟩ := ro
  cases ri
  cases h : S[n]? with
  | none => simp [h] at e
  | some c =>
    cases c with
    | gone => simp [h] at e
    | dct ks0 ds0 => simp [h] at e
    | dtt lk0 ks0 ds0 => simp [h] at e
    | obj nm0 ks0 ds0 => simp [h] at e
    | lst ds =>
      simp only [h] at e
      obtain ⟨_, vs, h1, h2⟩ := z.cel n a _ hn h
      obtain ⟨v, h4, h5⟩ := h2.atI e
      exact ⟨a, vs, k, v, rfl, rfl, .of h1, h4, q v h5⟩
def zAugS (o i : EM D) (op : D → D → Sto → Rs D) (e : EM D) : SM := fun env S => (o env S).st env fun x S1 => (i env S1).st env fun y S2 => match ptrAt x y S2 with
  | some old => (e env S2).st env fun w S4 => (op old w S4).st env fun new S5 => match stSet x y new S5 with
    | some S6 => .mk (.next env) S6
    | none => .stk
  | none => .stk
theorem zs_augS (ho : ZE X W o to fo) (hi : ZE X W i ti fi) (he : ZE X W e te fe) (hp : ZO X (inplaceOp op) r o')
    (ha : ∀ ov iv new, augStore i ov iv new = (do holding [new, ov, iv] (setItem ov iv new); release [new, ov, iv] []; pure .next) := by intros; rfl) : ZS X W (.AugAssign (.Subscript o i tpos) op e pos) (tAugS to ti te (rIxL X.K) r rSetL) (zAugS fo fi o' fe) := by
  refine ⟨ps_augS ho.pe hi.pe get_list he.pe hp.op set_list ha, ?_⟩
  intro fr m Hc env S σ H E z zz p
  refine ho.sd fr m Hc env S σ H _ z zz (p.bnd zz fun x S1 ov m1 Hc1 H1 x1 z1 r1 p1 => ?_)
  have zz1 := Ze.mono x1 zz
  refine hi.sd fr m1 Hc1 env S1 σ H1 _ z1 zz1 (p1.bnd zz1 fun y S2 iv m2 Hc2 H2 x2 z2 r2 p2 => ?_)
  have zz2 := Ze.mono x2 zz1
  have ro := Rep.mono x2 _ _ r1
  cases h : ptrAt x y S2 with
  | none => simp [h] at p2; exact p2.elim
  | some old =>
    simp only [h] at p2
    refine ptrAt_ok z2 ro r2 h fun oldv h5 => ?_
    refine he.sd fr m2 Hc2 env S2 σ H2 _ z2 zz2 (p2.bnd zz2 fun w S4 wv m4 Hc4 H4 x4 z4 r4 p4 => ?_)
    have zz4 := Ze.mono x4 zz2
    refine hp.sd fr m4 Hc4 S4 H4 oldv wv old w _ _ z4 (Rep.mono x4 _ _ h5) r4 (p4.bnd zz4 fun new S5 nv m5 Hc5 H5 x5 z5 r5 p5 => ?_)
    cases h6 : stSet x y new S5 with
    | none => simp [h6] at p5; exact p5.elim
    | some S6 =>
      simp only [h6] at p5
      exact stSet_ok z5 (Rep.mono (x4.trans x5) _ _ ro) (Rep.mono (x4.trans x5) _ _ r2) r5 h6 fun H' z' => p5 σ m5 Hc5 H' (Ex.refl _ _) z' (Ze.mono x5 zz4)
end
/-! ### methods of mutable lists -/
def dAppend (x : D) (ys : List D) (S : Sto) : Rs D := match x, ys with
  | .ptr n, [y] => match S[n]? with
    | some (.lst ds) => if ds.length < bigN then .ok .non (S.set n (.lst (ds ++ [y]))) else .stk
    | _ => .stk
  | _, _ => .stk
/-- the item, the place: list.pop(i) -/
def popAt (ds : List D) (i : Int) : Option (D × List D) := match ixN ds.length i with
  | some j => match ds[j]? with
    | some d => some (d, ds.eraseIdx j)
    | none => none
  | none => none
def dPopAt (x : D) (ys : List D) (S : Sto) : Rs D := match x, ys with
  | .ptr n, [.int i] => match S[n]? with
    | some (.lst ds) => if -1000000 ≤ i ∧ i ≤ 1000000 then match popAt ds i with
      | some (d, es) => .ok d (S.set n (.lst es))
      | none => .stk
      else .stk
    | _ => .stk
  | _, _ => .stk
def MS (K : PySem.W.Frag) (mg : Mg) (r : V → List V → Hp → VK → Prop) (o : D → List D → Sto → Rs D) : Prop :=
  ∀ fr m Hc S H x xs d ds w Q, Zh K fr m Hc S H → Rep K Hc m d x → Reps K Hc m ds xs → Pst K mg fr (fun Hc m d v => Rep K Hc m d v) m Hc w Q (o d ds S) → r x xs H Q
theorem ms_append {K mg} : MS K mg rAppend dAppend := by
  intro fr m Hc S H x xs d ds w Q z r1 r2 p
  unfold dAppend at p
  split at p
  · rename_i n y
    obtain ⟨a, rfl, hn⟩ := r1
    obtain ⟨v, rfl, rv⟩ := r2.one_of
    cases h : S[n]? with
    | none => simp [h] at p; exact p.elim
    | some c =>
      cases c with
      | gone => simp [h] at p; exact p.elim
      | dct ks0 ds0 => simp [h] at p; exact p.elim
      | dtt lk0 ks0 ds0 => simp [h] at p; exact p.elim
      | obj nm0 ks0 ds0 => simp [h] at p; exact p.elim
      | lst es =>
        simp only [h] at p
        by_cases hl : es.length < bigN
        · rw [if_pos hl] at p
          obtain ⟨_, vs, h1, h2⟩ := z.cel n a _ hn h
          exact ⟨a, vs, v, rfl, rfl, h1, by rw [h2.length]; exact Nat.lt_of_lt_of_le hl (by decide), p _ m Hc _ (Ex.refl _ _) (z.wr hn h (h2.append (Reps.one rv))) rfl⟩
        · rw [if_neg hl] at p; exact p.elim
  · exact p.elim
theorem ms_popAt {K mg} : MS K mg rPopAt dPopAt := by
  intro fr m Hc S H x xs d ds w Q z r1 r2 p
  unfold dPopAt at p
  split at p
  · rename_i n i
    obtain ⟨a, rfl, hn⟩ := r1
    obtain ⟨v, rfl, rv⟩ := r2.one_of
    cases rv
    cases h : S[n]? with
    | none => simp [h] at p; exact p.elim
    | some c =>
      cases c with
      | gone => simp [h] at p; exact p.elim
      | dct ks0 ds0 => simp [h] at p; exact p.elim
      | dtt lk0 ks0 ds0 => simp [h] at p; exact p.elim
      | obj nm0 ks0 ds0 => simp [h] at p; exact p.elim
      | lst es =>
        simp only [h] at p
        by_cases hl : -1000000 ≤ i ∧ i ≤ 1000000
        · rw [if_pos hl] at p
          obtain ⟨_, vs, h1, h2⟩ := z.cel n a _ hn h
          unfold popAt at p
          cases h3 : ixN es.length i with
          | none => simp [h3] at p; exact p.elim
          | some j =>
            cases h4 : es[j]? with
            | none => simp [h3, h4] at p; exact p.elim
            | some d =>
              simp only [h3, h4] at p
              obtain ⟨u, h5, h6⟩ := h2.get h4
              exact ⟨a, vs, i, j, u, rfl, rfl, h1, by omega, by omega, by rw [h2.length]; exact (ixN_seq h3).1, h5, p _ m Hc _ (Ex.refl _ _) (z.wr hn h (h2.eraseIdx j)) h6⟩
        · rw [if_neg hl] at p; exact p.elim
  · exact p.elim
def zMeth (o : D → List D → Sto → Rs D) (a : EM D) (xs : EM (List D)) : EM D := fun env S => (a env S).bnd fun x S1 => (xs env S1).bnd fun ys S2 => o x ys S2
/-- a mutable list as a receiver -/
def isPtrL (x : D) (S : Sto) : Bool := match x with
  | .ptr n => match S[n]? with
    | some (.lst _) => true
    | _ => false
  | _ => false
def zMethL (o : D → List D → Sto → Rs D) (a : EM D) (xs : EM (List D)) : EM D := fun env S => (a env S).bnd fun x S1 => if isPtrL x S1 = true then (xs env S1).bnd fun ys S2 => o x ys S2 else .stk
section
variable {X : Cx} {W : WX} {apos cpos : Pos} {name : Str} {id : String} {o e : Expr} {es : List Expr} {to : TE} {fo : EM D} {t : TA} {f : EM (List D)} {r : V → List V → Hp → VK → Prop} {op : D → List D → Sto → Rs D}
theorem ze_methL (slot : Slot "list" name id) (hty : typeOf (.builtin id) = pure (.type "method_descriptor")) (hm : MtR X id r) (hs : MS X.K X.mg r op) (ho : ZE X W o to fo) (ha : ZA X W (e :: es) t f)
    (hbase : attributeBase o name X.env (eval o X.env) = eval o X.env := by rfl) (hfew : ((backTo cpos (starEach (e :: es) X.env)).all (fun x => !x.1) && (backToKw cpos (keywordEach [] X.env)).all (fun x => x.1.isSome) &&
      decide ((e :: es).length + ([] : List Keyword).length + (if ([] : List Keyword).isEmpty then 0 else 1) < 30)) = true := by rfl) (hline : (apos.endLine == cpos.line) = true := by rfl) (hst : starEach (e :: es) X.env = (false, eval e X.env) :: starEach es X.env := by rfl) (hplain : (backTo cpos (starEach es X.env)).any (·.1) = false := by rfl) :
    ZE X W (.Call (.Attribute o name apos) (e :: es) [] cpos) (tBM X.K "list" r to t) (zMethL op fo f) := by
  refine ⟨pe_bm PySem.F.plainAttrs_list slot hty hm ho.pe ha.pa hbase hfew hline hst hplain, ?_⟩
  intro fr m Hc env S σ H Q z zz p
  refine ho.sd fr m Hc env S σ H _ z zz (p.bnd fun x S1 v m1 Hc1 H1 x1 z1 r1 p1 => ?_)
  by_cases hp : isPtrL x S1 = true
  · rw [if_pos hp] at p1
    cases x <;> first | (simp [isPtrL] at hp; done) | skip
    rename_i n
    have r1' := r1
    obtain ⟨a, rfl, hn⟩ := r1
    cases h : S1[n]? with
    | none => simp [isPtrL, h] at hp
    | some c =>
      cases c with
      | gone => simp [isPtrL, h] at hp
      | dct ks0 ds0 => simp [isPtrL, h] at hp
      | dtt lk0 ks0 ds0 => simp [isPtrL, h] at hp
      | obj nm0 ks0 ds0 => simp [isPtrL, h] at hp
      | lst ds =>
        obtain ⟨_, vs, h1, h2⟩ := z1.cel n a _ hn h
        refine ⟨.inl ⟨rfl, _, .inl (.inl h1)⟩, ?_⟩
        refine ha.sd fr m1 Hc1 env S1 σ H1 _ z1 (Ze.mono x1 zz) (p1.bnd fun ys S2 us m2 Hc2 H2 x2 z2 r2 p2 => ?_)
        exact hs fr m2 Hc2 S2 H2 _ us _ ys _ Q z2 (Rep.mono x2 _ _ r1') r2 p2
  · rw [if_neg hp] at p1; exact p1.elim
/-- n.bit_length() -/
def dBits (x : D) (S : Sto) : Rs D := match x with
  | .int i => .ok (.int (Builtin.Int.intBits i : Nat)) S
  | _ => .stk
theorem ze_bits (ho : ZE X W o to fo) (hbase : attributeBase o "bit_length" X.env (eval o X.env) = eval o X.env := by rfl) (hline : (apos.endLine == cpos.line) = true := by rfl) : ZE X W (.Call (.Attribute o "bit_length" apos) [] [] cpos) (tBits to) (zUn dBits fo) := by
  refine ⟨pe_bits ho.pe hbase hline, ?_⟩
  intro fr m Hc env S σ H Q z zz p
  refine ho.sd fr m Hc env S σ H _ z zz (p.bnd fun x S1 v m1 Hc1 H1 x1 z1 r1 p1 => ?_)
  unfold dBits at p1
  cases x <;> first | exact p1.elim | skip
  cases r1
  exact ⟨_, rfl, p1.use z1 rfl⟩
end

/-! ### what is walked -/
structure Src where
  items : List D
  gd : Option Nat
open Classical in
noncomputable def Src.okAt (s : Src) (S : Sto) : Bool := match s.gd with
  | none => true
  | some n => decide (S[n]? = some (.lst s.items))
@[simp] theorem Src.okAt_none (xs : List D) (S : Sto) : Src.okAt ⟨xs, none⟩ S = true := rfl
abbrev EI := EM Src
def ItO (K : PySem.W.Frag) (m : List Addr) (Hc : Hp) (J : It) (s : Src) : Prop :=
  ∀ fr m1 Hc1 S1 H1 (i : Nat), Ex m Hc m1 Hc1 → Zh K fr m1 Hc1 S1 H1 → s.okAt S1 = true →
    (∀ d, s.items[i]? = some d → J.go i H1 ∧ ∀ x H2, J.yld i H1 x H2 → ∃ m2 Hc2, Ex m1 Hc1 m2 Hc2 ∧ Zh K fr m2 Hc2 S1 H2 ∧ Rep K Hc2 m2 d x) ∧ (s.items.length ≤ i → J.stop i H1)
def rI (K : PySem.W.Frag) : Hp → List Addr → Src → It → Prop := fun Hc m s J => ItO K m Hc J s
structure ZI (X : Cx) (W : WX) (tg iter : Expr) (wi : TI) (f : EI) : Prop where
  pi : PI X tg iter wi
  sd : ∀ fr m Hc env S σ H R, Zh X.K fr m Hc S H → Ze X.K Hc m env σ → Pst X.K X.mg fr (rI X.K) m Hc (fun c o H => W c o σ H) R (f env S) → wi σ H R
theorem PI.or {X : Cx} {tg e : Expr} {w w' : TI} (h : PI X tg e w) (h' : PI X tg e w') : PI X tg e (fun σ H R => w σ H R ∨ w' σ H R) :=
  ⟨fun pins s σ H R I q => q.elim (h.run pins s σ H R I) (h'.run pins s σ H R I)⟩
theorem SqL.inj {K : PySem.W.Frag} {H : Hp} {a : Addr} {xs ys : List V} (h : H a = some (.lst xs)) (h' : SqL K H a ys) (hn : ∀ o, K.lookup a = some o → False) : xs = ys := by
  rcases h' with (q | ⟨o, q⟩) | ⟨o, _, _, q, _⟩
  · rw [h] at q; cases q; rfl
  · rw [h] at q; cases q
  · exact (hn o q).elim
theorem ito_range {K m Hc} (lo : Int) (n : Nat) : ItO K m Hc (Itr lo n) ⟨(List.range n).map fun k => D.int (lo + (k : Nat)), none⟩ := by
  intro fr m1 Hc1 S1 H1 i x z _
  refine ⟨fun d hd => ?_, fun hl => by simpa [Itr] using hl⟩
  rw [List.getElem?_map] at hd
  cases h : (List.range n)[i]? with
  | none => rw [h] at hd; cases hd
  | some j =>
    rw [h] at hd
    obtain ⟨hi, hj⟩ := List.getElem?_eq_some_iff.mp h
    simp at hj hi
    subst hj
    cases hd
    refine ⟨hi, fun x H2 hy => ?_⟩
    obtain ⟨e1, e2⟩ := hy
    subst e1 e2
    exact ⟨m1, Hc1, Ex.refl _ _, z, rfl⟩
/-- range(b) as ints -/
def rangeD (lo hi : Int) : List D := (List.range (hi - lo).toNat).map fun k => D.int (lo + (k : Nat))
def zRange1 (a : EM (List D)) : EI := fun env S => (a env S).bnd fun xs S1 => match xs with
  | [.int j] => if j ≤ 1000000 ∧ -1000000 ≤ j then .ok ⟨rangeD 0 j, none⟩ S1 else .stk
  | _ => .stk
def zRange2 (a : EM (List D)) : EI := fun env S => (a env S).bnd fun xs S1 => match xs with
  | [.int i, .int j] => if (j ≤ 1000000 ∧ -1000000 ≤ j) ∧ (i ≤ 1000000 ∧ -1000000 ≤ i) then .ok ⟨rangeD i j, none⟩ S1 else .stk
  | _ => .stk
section
variable {X : Cx} {W : WX} {tg a b : Expr} {p pos : Pos} {ta : TA} {fa : EM (List D)}
theorem zi_range1 (hg : Gl X "range") (hm : X.mg "range" = none) (ha : ZA X W [a] ta fa) (hs : starEach [a] X.env = [(false, eval a X.env)] := by rfl) : ZI X W tg (.Call (.Name "range" p) [a] [] pos) (iRng1 ta) (zRange1 fa) := by
  refine ⟨pi_range1 hg hm ha.pa hs, ?_⟩
  intro fr m Hc env S σ H R z zz q
  refine ha.sd fr m Hc env S σ H _ z zz (q.bnd fun xs S1 vs m1 Hc1 H1 x1 z1 r1 q1 => ?_)
  split at q1
  · rename_i j
    obtain ⟨v, rfl, rv⟩ := r1.one_of
    cases rv
    by_cases h : j ≤ 1000000 ∧ -1000000 ≤ j
    · rw [if_pos h] at q1
      refine ⟨j, rfl, by omega, by omega, q1.use z1 ?_⟩
      have := ito_range (K := X.K) (m := m1) (Hc := Hc1) 0 j.toNat
      unfold rangeD
      rw [Int.sub_zero]
      exact this
    · rw [if_neg h] at q1; exact q1.elim
  · exact q1.elim
theorem zi_range2 (hg : Gl X "range") (hm : X.mg "range" = none) (ha : ZA X W [a, b] ta fa) (hs : starEach [a, b] X.env = [(false, eval a X.env), (false, eval b X.env)] := by rfl) (hs2 : starEach [b] X.env = [(false, eval b X.env)] := by rfl) :
    ZI X W tg (.Call (.Name "range" p) [a, b] [] pos) (iRng2 ta) (zRange2 fa) := by
  refine ⟨pi_range2 hg hm ha.pa hs hs2, ?_⟩
  intro fr m Hc env S σ H R z zz q
  refine ha.sd fr m Hc env S σ H _ z zz (q.bnd fun xs S1 vs m1 Hc1 H1 x1 z1 r1 q1 => ?_)
  split at q1
  · rename_i i j
    obtain ⟨v, w, rfl, rv, rw'⟩ := r1.two_of
    cases rv; cases rw'
    by_cases h : (j ≤ 1000000 ∧ -1000000 ≤ j) ∧ (i ≤ 1000000 ∧ -1000000 ≤ i)
    · rw [if_pos h] at q1
      exact ⟨i, j, rfl, ⟨by omega, by omega, by omega, by omega⟩, q1.use z1 (ito_range i (j - i).toNat)⟩
    · rw [if_neg h] at q1; exact q1.elim
  · exact q1.elim
end
end Z

namespace Z
open PySem L2
open PySem.Spec PyProof.Rows
variable [Tabs]

theorem okAt_ptr {n : Nat} {ds : List D} {S : Sto} (h : Src.okAt ⟨ds, some n⟩ S = true) : S[n]? = some (.lst ds) := by
  unfold Src.okAt at h
  simpa using h
theorem okAt_ptr' {n : Nat} {ds : List D} {S : Sto} (h : S[n]? = some (.lst ds)) : Src.okAt ⟨ds, some n⟩ S = true := by
  unfold Src.okAt
  simpa using h
section
variable {K : PySem.W.Frag} {m : List Addr} {Hc : Hp} {a : Addr} {vs : List V} {ds : List D}
/-- from a list's reading at every turn -/
theorem ito_list {s : Src} (h : ∀ fr m1 Hc1 S1 H1, Ex m Hc m1 Hc1 → Zh K fr m1 Hc1 S1 H1 → s.okAt S1 = true → ∃ vs, SqL K H1 a vs ∧ Reps K Hc1 m1 s.items vs) : ItO K m Hc (Itl K a) s := by
  intro fr m1 Hc1 S1 H1 i x z g
  obtain ⟨vs, q, rr⟩ := h fr m1 Hc1 S1 H1 x z g
  refine ⟨fun d hd => ?_, fun hl => ⟨vs, q, by rw [rr.length]; exact hl⟩⟩
  obtain ⟨v, hv, rv⟩ := rr.get hd
  refine ⟨⟨vs, v, q, hv⟩, fun y H2 hy => ?_⟩
  obtain ⟨e, hy⟩ := hy
  subst e
  have e : y = v := Option.some.inj ((hy vs q).symm.trans hv)
  subst e
  exact ⟨m1, Hc1, Ex.refl _ _, z, rv⟩
theorem ito_tup (q : SqT K Hc a vs) (rr : Reps K Hc m ds vs) : ItO K m Hc (Itt K a) ⟨ds, none⟩ := by
  intro fr m1 Hc1 S1 H1 i x z g
  have q1 := Same.tupT z.sub (Same.tupT x.sub q)
  have rr1 := Reps.mono x _ _ rr
  refine ⟨fun d hd => ?_, fun hl => ⟨vs, q1, by rw [rr.length]; exact hl⟩⟩
  obtain ⟨v, hv, rv⟩ := rr1.get hd
  refine ⟨⟨vs, v, q1, hv⟩, fun y H2 hy => ?_⟩
  obtain ⟨e, hy⟩ := hy
  subst e
  have e : y = v := Option.some.inj ((hy vs q1).symm.trans hv)
  subst e
  exact ⟨m1, Hc1, Ex.refl _ _, z, rv⟩
/-- at the turns of a walk over a list by enumerate -/
theorem ito_enum {s : Src} {es : List D} (he : s.items = es.zipIdx.map fun p => D.tup [.int (p.2 : Nat), p.1]) (h : ∀ fr m1 Hc1 S1 H1, Ex m Hc m1 Hc1 → Zh K fr m1 Hc1 S1 H1 → s.okAt S1 = true → ∃ vs, SqL K H1 a vs ∧ Reps K Hc1 m1 es vs) : ItO K m Hc (Ite K a) s := by
  intro fr m1 Hc1 S1 H1 i x z g
  obtain ⟨vs, q, rr⟩ := h fr m1 Hc1 S1 H1 x z g
  refine ⟨fun d hd => ?_, fun hl => ⟨vs, q, by rw [rr.length]; rw [he] at hl; simpa using hl⟩⟩
  rw [he, List.getElem?_map, List.getElem?_zipIdx] at hd
  cases h1 : es[i]? with
  | none => rw [h1] at hd; cases hd
  | some d0 =>
    rw [h1] at hd
    simp at hd
    subst hd
    obtain ⟨v, hv, rv⟩ := rr.get h1
    refine ⟨⟨vs, v, q, hv⟩, fun y H2 hy => ?_⟩
    obtain ⟨T, w, rfl, nT, rfl, hy⟩ := hy
    have e : w = v := Option.some.inj ((hy vs q).symm.trans hv)
    subst e
    obtain ⟨z2, x2⟩ := z.new (o := .tup [.int (i : Nat), w]) nT
    exact ⟨m1, _, x2, z2, T, _, rfl, upd_same, _, _, rfl, rfl, _, _, rfl, Rep.mono x2 _ _ rv, rfl⟩
end
/-- the source of a walk -/
def srcOf (x : D) (S : Sto) : Option Src := match x with
  | .tup ds => some ⟨ds, none⟩
  | .rot ds => some ⟨ds, none⟩
  | .rng lo hi => if (lo ≤ 1000000 ∧ -1000000 ≤ lo) ∧ (hi ≤ 1000000 ∧ -1000000 ≤ hi) then some ⟨rangeD lo hi, none⟩ else none
  | .lst ds => some ⟨ds, none⟩
  | .rol ns => some ⟨ns.map D.int, none⟩
  | .ptr n => match S[n]? with
    | some (.lst ds) => some ⟨ds, some n⟩
    | _ => none
  | _ => none
def isTup : D → Bool
  | .tup _ => true
  | .rot _ => true
  | .rng _ _ => true
  | _ => false
theorem src_list {K fr m Hc S H} {d : D} {v : V} {s : Src} (z : Zh K fr m Hc S H) (r : Rep K Hc m d v) (e : srcOf d S = some s) (ht : isTup d = false) : s.okAt S = true ∧ ∃ a, v = .ref a ∧ (∀ fr m1 Hc1 S1 H1, Ex m Hc m1 Hc1 → Zh K fr m1 Hc1 S1 H1 → s.okAt S1 = true → ∃ vs, SqL K H1 a vs ∧ Reps K Hc1 m1 s.items vs) := by
  cases d with
  | lst ds =>
    cases e
    obtain ⟨a, vs, rfl, q, rr⟩ := r
    exact ⟨rfl, a, rfl, fun fr m1 Hc1 S1 H1 x z1 g => ⟨vs, .of (z1.sub _ _ (x.sub _ _ q)), Reps.mono x _ _ rr⟩⟩
  | rol ns =>
    cases e
    obtain ⟨a, rfl, q⟩ := r
    exact ⟨rfl, a, rfl, fun fr m1 Hc1 S1 H1 x z1 g => ⟨_, z1.sub.seq (x.sub.seq q), reps_ints ns⟩⟩
  | ptr n =>
    obtain ⟨a, rfl, hn⟩ := r
    unfold srcOf at e
    cases h : S[n]? with
    | none => simp [h] at e
    | some c =>
      cases c with
      | gone => simp [h] at e
      | dct ks0 ds0 => simp [h] at e
      | dtt lk0 ks0 ds0 => simp [h] at e
      | obj nm0 ks0 ds0 => simp [h] at e
      | lst ds =>
        simp [h] at e
        subst e
        refine ⟨okAt_ptr' h, a, rfl, fun fr m1 Hc1 S1 H1 x z1 g => ?_⟩
        obtain ⟨_, vs, h1, h2⟩ := z1.cel n a _ (x.get hn) (okAt_ptr g)
        exact ⟨vs, .of h1, h2⟩
  | tup ds => cases ht
  | rot ds => cases ht
  | rng a b => cases ht
  | _ => cases e
def zSrc (a : EM D) : EI := fun env S => (a env S).bnd fun x S1 => match srcOf x S1 with
  | some s => .ok s S1
  | none => .stk
def zEnum (a : EM (List D)) : EI := fun env S => (a env S).bnd fun xs S1 => match xs with
  | [x] => match isTup x with
    | true => .stk
    | false => match srcOf x S1 with
      | some ⟨ds, none⟩ => .ok ⟨ds.zipIdx.map fun p => D.tup [.int (p.2 : Nat), p.1], none⟩ S1
      | _ => .stk
  | _ => .stk
section
variable {X : Cx} {W : WX} {tg e : Expr} {te : TE} {fe : EM D} {p pos tpos : Pos} {elts : List Expr} {kk : Nat} {ta : TA} {fa : EM (List D)}
/-- a range object that is walked -/
def iRng (te : TE) : TI := fun σ H R => te σ H fun x H1 => ∃ a lo hi, x = .ref a ∧ H1 a = some (.rng lo hi) ∧ (-(2 ^ 62) ≤ lo ∧ lo < 2 ^ 62 ∧ -(2 ^ 62) ≤ hi ∧ hi < 2 ^ 62) ∧ R (Itr lo (hi - lo).toNat) H1
theorem pi_rngO (he : PE X e te) : PI X tg e (iRng te) := by
  refine ⟨fun ps s σ H R inv wi => ?_⟩
  refine thn (he.run ps s σ H _ inv wi) fun v s1 ⟨x, H1, I1, r1, q1⟩ => ?_
  obtain ⟨a, lo, hi, e, hq, ⟨b1, b2, b3, b4⟩, q⟩ := q1
  subst e
  cases r1
  obtain ⟨t, u, v, ho⟩ := I1.hok a _ hq
  refine wpAny_pyIter_range ho (small_one b1 b2 b3 b4) ?_
  refine ⟨s1.heap.objs.size, [s1.heap.objs.size], _, _, H1, rfl, I1.kept (t' := s1.toks) fun b o e => Heap.get?_push_of_some _ e, turn_range _ lo (hi - lo).toNat, ?_, fun b hb => ?_, q⟩
  · have at0 : lo + ((0 : Nat) : Int) * 1 = lo ∧ (((hi - lo).toNat : Nat) : Int) - ((0 : Nat) : Int) = Builtin.Range.rangeSize lo hi 1 := ⟨by simp, by rw [rangeSize_one]; split <;> omega⟩
    show IsRangeIter _ s1.heap.objs.size (lo + ((0 : Nat) : Int) * 1) ((((hi - lo).toNat : Nat) : Int) - ((0 : Nat) : Int)) 1
    rw [at0.1, at0.2]; exact (Heap.get?_push_size _ rfl)
  · have eb : b = s1.heap.objs.size := by simpa using hb
    exact eb ▸ I1.fpOk (Nat.le_refl _) (I1.hok.fresh (Nat.le_refl _))
theorem PI.alt {X : Cx} {tg e : Expr} {w w' : TI} (h : PI X tg e w) (h' : PI X tg e w') : PI X tg e (fun σ H R => w σ H R ∨ w' σ H R) :=
  ⟨fun pins s σ H R I q => q.elim (h.run pins s σ H R I) (h'.run pins s σ H R I)⟩
theorem Pst.bndE {α β γ δ : Type} {K : PySem.W.Frag} {mg : Mg} {fr : List (Addr × HO)} {rel : Hp → List Addr → α → β → Prop} {rel2 : Hp → List Addr → γ → δ → Prop} {m : List Addr} {Hc : Hp} {w : WS} {Q : β → Hp → Prop} {r : Rs γ} {k : γ → Sto → Rs α} {T : δ → Hp → Prop} (h : Pst K mg fr rel m Hc w Q (r.bnd k))
    (hk : ∀ a S1 b m1 Hc1 H1, r = .ok a S1 → Ex m Hc m1 Hc1 → Zh K fr m1 Hc1 S1 H1 → rel2 Hc1 m1 a b → Pst K mg fr rel m1 Hc1 w Q (k a S1) → T b H1) : Pst K mg fr rel2 m Hc w T r := by
  cases r with
  | ok a S => exact fun b m1 H1 H' x z q => hk a S b m1 H1 H' rfl x z q (Pst.mono x h)
  | exc e S => exact h
  | stk => exact h
theorem zi_src (he : ZE X W e te fe) : ZI X W tg e (fun σ H R => iList X.K te σ H R ∨ (iTup X.K te σ H R ∨ iRng te σ H R)) (zSrc fe) := by
  refine ⟨PI.alt (pi_list he.pe) (PI.alt (pi_tup he.pe) (pi_rngO he.pe)), ?_⟩
  intro fr m Hc env S σ H R z zz q
  by_cases hk : ∃ d S1, fe env S = .ok d S1 ∧ isTup d = true
  · obtain ⟨d, S0, h0, ht⟩ := hk
    cases d <;> first | (cases ht; done) | skip
    · rename_i ds
      refine .inr (.inl (he.sd fr m Hc env S σ H _ z zz (q.bndE fun x S1 v m1 Hc1 H1 e1 x1 z1 r1 q1 => ?_)))
      rw [h0] at e1
      cases e1
      obtain ⟨a, vs, rfl, hq, rr⟩ := r1
      exact ⟨a, rfl, ⟨vs, .of (z1.sub _ _ hq)⟩, q1.use z1 (ito_tup (.of hq) rr)⟩
    · rename_i lo hi
      refine .inr (.inr (he.sd fr m Hc env S σ H _ z zz (q.bndE fun x S1 v m1 Hc1 H1 e1 x1 z1 r1 q1 => ?_)))
      rw [h0] at e1
      cases e1
      obtain ⟨a, rfl, hq⟩ := r1
      simp only [srcOf] at q1
      by_cases hb : (lo ≤ 1000000 ∧ -1000000 ≤ lo) ∧ (hi ≤ 1000000 ∧ -1000000 ≤ hi)
      · rw [if_pos hb] at q1
        exact ⟨a, lo, hi, rfl, z1.sub _ _ hq, ⟨by omega, by omega, by omega, by omega⟩, q1.use z1 (ito_range lo (hi - lo).toNat)⟩
      · rw [if_neg hb] at q1; exact q1.elim
    · rename_i ds
      refine .inr (.inl (he.sd fr m Hc env S σ H _ z zz (q.bndE fun x S1 v m1 Hc1 H1 e1 x1 z1 r1 q1 => ?_)))
      rw [h0] at e1
      cases e1
      obtain ⟨a, vs, rfl, hq, rr⟩ := r1
      exact ⟨a, rfl, ⟨vs, Same.tupT z1.sub hq⟩, q1.use z1 (ito_tup hq rr)⟩
  · refine .inl (he.sd fr m Hc env S σ H _ z zz (q.bndE fun x S1 v m1 Hc1 H1 e1 x1 z1 r1 q1 => ?_))
    have ht : isTup x = false := by
      cases h : isTup x with
      | false => rfl
      | true => exact (hk ⟨_, _, e1, h⟩).elim
    cases h : srcOf x S1 with
    | none => simp [h] at q1; exact q1.elim
    | some s =>
      simp only [h] at q1
      obtain ⟨ok, a, rfl, hh⟩ := src_list z1 r1 h ht
      obtain ⟨vs, q2, _⟩ := hh fr m1 Hc1 S1 H1 (Ex.refl _ _) z1 ok
      exact ⟨a, rfl, ⟨vs, q2⟩, q1.use z1 (ito_list hh)⟩
theorem zi_enum (hg : Gl X "enumerate") (hm : X.mg "enumerate" = none) (ha : ZA X W [e] ta fa) (hs : starEach [e] X.env = [(false, eval e X.env)] := by rfl) : ZI X W (.Tuple elts kk tpos) (.Call (.Name "enumerate" p) [e] [] pos) (iEnum X.K ta) (zEnum fa) := by
  refine ⟨pi_enum hg hm ha.pa hs, ?_⟩
  intro fr m Hc env S σ H R z zz q
  refine ha.sd fr m Hc env S σ H _ z zz (q.bnd fun xs S1 vs m1 Hc1 H1 x1 z1 r1 q1 => ?_)
  split at q1
  · rename_i x
    obtain ⟨v, rfl, rv⟩ := r1.one_of
    cases ht : isTup x with
    | true => rw [ht] at q1; exact q1.elim
    | false =>
      rw [ht] at q1
      simp only [] at q1
      cases h : srcOf x S1 with
      | none => rw [h] at q1; exact q1.elim
      | some s =>
        obtain ⟨ds, gd⟩ := s
        cases gd with
        | some n => rw [h] at q1; exact q1.elim
        | none =>
          rw [h] at q1
          obtain ⟨_, a, rfl, hh⟩ := src_list z1 rv h ht
          obtain ⟨vs, q2, _⟩ := hh fr m1 Hc1 S1 H1 (Ex.refl _ _) z1 rfl
          exact ⟨a, vs, rfl, q2, q1.use z1 (ito_enum rfl fun fr m2 Hc2 S2 H2 x2 z2 g => hh fr m2 Hc2 S2 H2 x2 z2 rfl)⟩
  · exact q1.elim
end

/-! ### for -/
/-- one turn's end -/
def Ss.turn (r : Ss) (k : SM) : Ss := match r with
  | .mk (.next env) S => k env S
  | .mk (.cnt env) S => k env S
  | .mk (.brk env) S => .mk (.next env) S
  | r => r
@[simp] theorem Ss.turn_next (env : En) (S : Sto) (k : SM) : (Ss.mk (.next env) S).turn k = k env S := rfl
@[simp] theorem Ss.turn_cnt (env : En) (S : Sto) (k : SM) : (Ss.mk (.cnt env) S).turn k = k env S := rfl
@[simp] theorem Ss.turn_brk (env : En) (S : Sto) (k : SM) : (Ss.mk (.brk env) S).turn k = .mk (.next env) S := rfl
@[simp] theorem Ss.turn_ret (d : D) (S : Sto) (k : SM) : (Ss.mk (.ret d) S).turn k = .mk (.ret d) S := rfl
@[simp] theorem Ss.turn_exc (e : XV) (d : En) (S : Sto) (k : SM) : (Ss.mk (.exc e d) S).turn k = .mk (.exc e d) S := rfl
@[simp] theorem Ss.turn_stk (k : SM) : Ss.stk.turn k = .stk := rfl
noncomputable def forL (s : Src) (g : GM) (b : SM) : List D → SM
  | [] => fun env S => if s.okAt S = true then .mk (.next env) S else .stk
  | d :: ds => fun env S => if s.okAt S = true then (match g d env with
      | some env1 => (b env1 S).turn (forL s g b ds)
      | none => .stk) else .stk
noncomputable def zFor (i : EI) (g : GM) (b : SM) : SM := fun env S => (i env S).st env fun s S1 => forL s g b s.items env S1
section
variable {X : Cx} {W : WX} {pos : Pos} {tg iter : Expr} {body : List Stmt} {wi : TI} {fi : EI} {t : TG} {sl : List Nat} {g : GM} {tb : TS} {fb : SM}
theorem for_ok {fr m1 Hc1 env S1 H1} {σ : L2.St} {E : Ends} {s : Src} {J : It} (hg : ZG X tg t sl g) (hb : ZSs X W body tb fb) (r1 : ItO X.K m1 Hc1 J s) (z1 : Zh X.K fr m1 Hc1 S1 H1) (zz1 : Ze X.K Hc1 m1 env σ) (p1 : PstS X.K X.mg fr m1 Hc1 W E (forL s g fb s.items env S1)) :
    ∃ W : Nat → Nat → L2.St → Hp → Prop, (∃ m, W 0 m σ H1) ∧ ∀ i m σ H, W i m σ H →
      (J.stop i H ∧ E.nx σ H) ∨ (J.go i H ∧ ∃ N : L2.St → Hp → Prop, (∀ σ' H', N σ' H' → ∃ m', m' < m ∧ W (i + 1) m' σ' H') ∧ ∀ x H', J.yld i H x H' → t x σ H' fun σ2 H2 => tb { E with nx := N, ct := N, bk := E.nx } σ2 H2) := by
  refine ⟨fun i k σ' H' => k = s.items.length - i ∧ ∃ m2 Hc2 env2 S2, Ex m1 Hc1 m2 Hc2 ∧ Zh X.K fr m2 Hc2 S2 H' ∧ Ze X.K Hc2 m2 env2 σ' ∧ PstS X.K X.mg fr m2 Hc2 W E (forL s g fb (s.items.drop i) env2 S2),
    ⟨s.items.length, by simp, m1, Hc1, env, S1, Ex.refl _ _, z1, zz1, by simpa using p1⟩, ?_⟩
  rintro i k σ' H' ⟨rfl, m2, Hc2, env2, S2, x2, z2, zz2, p2⟩
  by_cases hlt : i < s.items.length
  · right
    rw [List.drop_eq_getElem_cons hlt] at p2
    unfold forL at p2
    by_cases hok : s.okAt S2 = true
    · rw [if_pos hok] at p2
      obtain ⟨hgo, hyl⟩ := (r1 fr m2 Hc2 S2 H' i x2 z2 hok).1 _ (List.getElem?_eq_getElem hlt)
      refine ⟨hgo, fun σ3 H3 => ∃ m3 Hc3 env3 S3, Ex m1 Hc1 m3 Hc3 ∧ Zh X.K fr m3 Hc3 S3 H3 ∧ Ze X.K Hc3 m3 env3 σ3 ∧ PstS X.K X.mg fr m3 Hc3 W E (forL s g fb (s.items.drop (i + 1)) env3 S3), fun σ3 H3 hN => ⟨s.items.length - (i + 1), by omega, rfl, hN⟩, fun x H3 hy => ?_⟩
      obtain ⟨m3, Hc3, x3, z3, r3⟩ := hyl x H3 hy
      cases hgd : g s.items[i] env2 with
      | none => rw [hgd] at p2; exact p2.elim
      | some env3 =>
        rw [hgd] at p2
        replace p2 : PstS X.K X.mg fr m2 Hc2 W E ((fb env3 S2).turn (forL s g fb (s.items.drop (i + 1)))) := p2
        refine hg.sd fr m3 Hc3 S2 H3 x _ env2 env3 σ' _ z3 r3 (Ze.mono x3 zz2) hgd fun σ3 zz3 _ => ?_
        refine hb.sd fr m3 Hc3 env3 S2 σ3 H3 _ z3 zz3 ?_
        have p3 := PstS.mono x3 p2
        cases hbr : fb env3 S2 with
        | stk => rw [hbr] at p3; exact p3
        | mk fl S4 =>
          rw [hbr] at p3
          cases fl with
          | next env4 => exact fun σ4 m4 Hc4 H4 x4 z4 zz4 => ⟨m4, Hc4, env4, S4, x2.trans (x3.trans x4), z4, zz4, PstS.mono x4 p3⟩
          | cnt env4 => exact fun σ4 m4 Hc4 H4 x4 z4 zz4 => ⟨m4, Hc4, env4, S4, x2.trans (x3.trans x4), z4, zz4, PstS.mono x4 p3⟩
          | brk env4 => exact p3
          | ret d => exact p3
          | exc e d => exact p3
    · rw [if_neg hok] at p2; exact p2.elim
  · left
    rw [List.drop_of_length_le (Nat.le_of_not_lt hlt)] at p2
    unfold forL at p2
    by_cases hok : s.okAt S2 = true
    · rw [if_pos hok] at p2
      exact ⟨(r1 fr m2 Hc2 S2 H' i x2 z2 hok).2 (Nat.le_of_not_lt hlt), p2 σ' m2 Hc2 H' (Ex.refl _ _) z2 zz2⟩
    · rw [if_neg hok] at p2; exact p2.elim
theorem zs_for (hp : PassesOwn (model X.prog X.w) X.A X.env X.xe) (hc : X.calm = true) (hi : ZI X W tg iter wi fi) (hg : ZG X tg t sl g) (hb : ZSs X W body tb fb) (hs : ∀ x, foldedSetIterable iter X.env x = pure x := by intro _; rfl) :
    ZS X W (.For tg iter body [] pos) (tFor wi t tb) (zFor fi g fb) := by
  refine ⟨ps_for hp hc hi.pi hg.pg hb.ps hs, ?_⟩
  intro fr m Hc env S σ H E z zz p
  refine hi.sd fr m Hc env S σ H _ z zz (p.bnd zz fun s S1 J m1 Hc1 H1 x1 z1 r1 p1 => ?_)
  exact for_ok hg hb r1 z1 (Ze.mono x1 zz) p1

/-! ### while -/
def whileN (c : EM Bool) (b : SM) : Nat → SM
  | 0 => fun _ _ => .stk
  | n + 1 => fun env S => (c env S).st env fun k S1 => if k = true then (b env S1).turn (whileN c b n) else .mk (.next env) S1
/-- N: turns at most -/
def zWhile (N : En → Sto → Nat) (c : EM Bool) (b : SM) : SM := fun env S => whileN c b (N env S) env S
theorem zs_while {c : Expr} {tc : TT} {gc : EM Bool} {N : En → Sto → Nat} (hp : PassesOwn (model X.prog X.w) X.A X.env X.xe) (hc : ZT X W c tc gc) (hb : ZSs X W body tb fb) : ZS X W (.While c body [] pos) (tWhile tc tb) (zWhile N gc fb) := by
  refine ⟨ps_while hp hc.pt hb.ps, ?_⟩
  intro fr m Hc env S σ H E z zz p
  refine ⟨fun n σ' H' => ∃ m2 Hc2 env2 S2, Zh X.K fr m2 Hc2 S2 H' ∧ Ze X.K Hc2 m2 env2 σ' ∧ PstS X.K X.mg fr m2 Hc2 W E (whileN gc fb n env2 S2), ⟨N env S, m, Hc, env, S, z, zz, p⟩, ?_⟩
  rintro n σ' H' ⟨m2, Hc2, env2, S2, z2, zz2, p2⟩
  cases n with
  | zero => exact p2.elim
  | succ n =>
    unfold whileN at p2
    refine hc.sd fr m2 Hc2 env2 S2 σ' H' _ z2 zz2 (p2.bnd zz2 fun k S3 k' m3 Hc3 H3 x3 z3 r3 p3 => ?_)
    cases r3
    have zz3 := Ze.mono x3 zz2
    cases k with
    | false =>
      rw [if_neg Bool.false_ne_true] at p3 ⊢
      exact p3 σ' m3 Hc3 H3 (Ex.refl _ _) z3 zz3
    | true =>
      rw [if_pos rfl] at p3 ⊢
      refine ⟨fun σ4 H4 => ∃ m2 Hc2 env2 S2, Zh X.K fr m2 Hc2 S2 H4 ∧ Ze X.K Hc2 m2 env2 σ4 ∧ PstS X.K X.mg fr m2 Hc2 W E (whileN gc fb n env2 S2), fun σ4 H4 hN => ⟨n, Nat.lt_succ_self n, hN⟩, ?_⟩
      refine hb.sd fr m3 Hc3 env2 S3 σ' H3 _ z3 zz3 ?_
      cases hbr : fb env2 S3 with
      | stk => rw [hbr] at p3; exact p3
      | mk fl S4 =>
        rw [hbr] at p3
        cases fl with
        | next env4 => exact fun σ4 m4 Hc4 H4 x4 z4 zz4 => ⟨m4, Hc4, env4, S4, z4, zz4, PstS.mono x4 p3⟩
        | cnt env4 => exact fun σ4 m4 Hc4 H4 x4 z4 zz4 => ⟨m4, Hc4, env4, S4, z4, zz4, PstS.mono x4 p3⟩
        | brk env4 => exact p3
        | ret d => exact p3
        | exc e d => exact p3
end
end Z

namespace Z
open PySem L2
open PySem.Spec PyProof.Rows
variable [Tabs]

abbrev W0 : WX := fun _ _ _ _ => False
def Rs.nox {α : Type} : Rs α → Rs α
  | .exc _ _ => .stk
  | r => r
@[simp] theorem Rs.nox_ok {α : Type} (a : α) (S : Sto) : (Rs.ok a S).nox = .ok a S := rfl
@[simp] theorem Rs.nox_stk {α : Type} : (Rs.stk : Rs α).nox = .stk := rfl
def wipeE (env : En) : List Nat → En
  | [] => env
  | v :: vs => (wipeE env vs).set v none
theorem Ze.wipe {K Hc m env σ} (z : Ze K Hc m env σ) : ∀ vs : List Nat, Ze K Hc m (wipeE env vs) (L2.wipe σ vs)
  | [] => z
  | v :: vs => (Ze.wipe z vs).unset v
theorem wipe_wipe {σ : L2.St} : ∀ {vs ws : List Nat}, (∀ i ∈ ws, i ∈ vs) → L2.wipe (L2.wipe σ ws) vs = L2.wipe σ vs
  | vs, [], _ => rfl
  | vs, w :: ws, h => by
    show L2.wipe ((L2.wipe σ ws).set w none) vs = _
    rw [wipe_set (h w List.mem_cons_self)]
    exact wipe_wipe fun i hi => h i (List.mem_cons_of_mem _ hi)
theorem Pst.bnd0 {α β γ δ : Type} {K : PySem.W.Frag} {mg : Mg} {fr fr' : List (Addr × HO)} {rel : Hp → List Addr → α → β → Prop} {rel2 : Hp → List Addr → γ → δ → Prop} {m : List Addr} {Hc : Hp} {w : WS} {Q : β → Hp → Prop} {r : Rs γ} {k : γ → Sto → Rs α} {T : δ → Hp → Prop} (h : Pst K mg fr rel m Hc w Q (r.nox.bnd k))
    (hk : ∀ a S1 b m1 Hc1 H1, Ex m Hc m1 Hc1 → Zh K fr' m1 Hc1 S1 H1 → rel2 Hc1 m1 a b → Pst K mg fr rel m1 Hc1 w Q (k a S1) → T b H1) : Pst K mg fr' rel2 m Hc (fun c o H => False) T r := by
  cases r with
  | ok a S => exact fun b m1 H1 H' x z q => hk a S b m1 H1 H' x z q (Pst.mono x h)
  | exc e S => exact h.elim
  | stk => exact h

/-! ### comprehensions -/
/-- the items that a clause adds to acc -/
noncomputable def lcA (s : Src) (g : GM) (ft : EM Bool) (fe : EM D) (env : En) : List D → List D → Sto → Rs (List D)
  | [], acc, S => if s.okAt S = true then .ok acc S else .stk
  | d :: ds, acc, S => if s.okAt S = true then (match g d env with
      | some env1 => (ft env1 S).nox.bnd fun b S1 => if b = true then (fe env1 S1).nox.bnd fun y S2 => if acc.length < bigN then lcA s g ft fe env ds (acc ++ [y]) S2 else .stk else lcA s g ft fe env ds acc S1
      | none => .stk) else .stk
/-- the same loop, by its reading -/
def LcT (J : It) (g : TG) (tt : TT) (te : TE) (vs : List Nat) (σ : L2.St) (Dn : Addr) (H1 : Hp) (Fin : Hp → Prop) : Prop :=
  ∃ W : Nat → Nat → Hp → Prop, (∃ m, W 0 m H1) ∧ ∀ i m H, W i m H →
  (J.stop i H ∧ Fin H) ∨ (J.go i H ∧ ∃ Nx : Hp → Prop, (∀ H', Nx H' → ∃ m', m' < m ∧ W (i + 1) m' H') ∧ ∀ x H', J.yld i H x H' → g x (L2.wipe σ vs) H' fun σ2 H2 => L2.wipe σ2 vs = L2.wipe σ vs ∧ tt σ2 H2 fun b H3 =>
    if b = true then te σ2 H3 fun y H4 => ∃ acc, H4 Dn = some (.lst acc) ∧ acc.length < sizeLine ∧ Nx (upd H4 Dn (.lst (acc ++ [y]))) else Nx H3)
section
variable {K : PySem.W.Frag} {mg : Mg} {t : TG} {sl : List Nat} {g : GM} {tt : TT} {ft : EM Bool} {te : TE} {fe : EM D}
theorem lcA_ok {α β : Type} {rel : Hp → List Addr → α → β → Prop} {w : WS} {Q : β → Hp → Prop} {s : Src} {J : It} {m1 : List Addr} {Hc1 H1 : Hp} {S1 : Sto} {fr : List (Addr × HO)} {Dn : Addr} {acc0 : List D} {accv0 : List V} {env : En} {σ : L2.St} {vs : List Nat} {k : List D → Sto → Rs α} {Fin : Hp → Prop}
    (hg : SG K t sl g) (hsl : ∀ i ∈ sl, i ∈ vs) (ht : ST K mg W0 tt ft) (he : SE K mg W0 te fe) (r1 : ItO K m1 Hc1 J s) (z1 : Zh K ((Dn, .lst accv0) :: fr) m1 Hc1 S1 H1) (rr : Reps K Hc1 m1 acc0 accv0) (zz : Ze K Hc1 m1 env (L2.wipe σ vs))
    (p : Pst K mg fr rel m1 Hc1 w Q ((lcA s g ft fe env s.items acc0 S1).bnd k))
    (fin : ∀ H' m2 Hc2 S2 acc accv, Ex m1 Hc1 m2 Hc2 → Zh K ((Dn, .lst accv) :: fr) m2 Hc2 S2 H' → Reps K Hc2 m2 acc accv → Pst K mg fr rel m2 Hc2 w Q (k acc S2) → Fin H') : LcT J t tt te vs σ Dn H1 Fin := by
  refine ⟨fun i n H' => n = s.items.length - i ∧ ∃ m2 Hc2 S2 acc accv, Ex m1 Hc1 m2 Hc2 ∧ Zh K ((Dn, .lst accv) :: fr) m2 Hc2 S2 H' ∧ Reps K Hc2 m2 acc accv ∧ Pst K mg fr rel m2 Hc2 w Q ((lcA s g ft fe env (s.items.drop i) acc S2).bnd k),
    ⟨s.items.length, by simp, m1, Hc1, S1, acc0, accv0, Ex.refl _ _, z1, rr, by simpa using p⟩, ?_⟩
  rintro i n H' ⟨rfl, m2, Hc2, S2, acc, accv, x2, z2, rr2, p2⟩
  by_cases hlt : i < s.items.length
  · right
    rw [List.drop_eq_getElem_cons hlt] at p2
    unfold lcA at p2
    by_cases hok : s.okAt S2 = true
    · rw [if_pos hok] at p2
      obtain ⟨hgo, hyl⟩ := (r1 _ m2 Hc2 S2 H' i x2 z2 hok).1 _ (List.getElem?_eq_getElem hlt)
      refine ⟨hgo, fun H3 => ∃ m3 Hc3 S3 acc' accv', Ex m1 Hc1 m3 Hc3 ∧ Zh K ((Dn, .lst accv') :: fr) m3 Hc3 S3 H3 ∧ Reps K Hc3 m3 acc' accv' ∧ Pst K mg fr rel m3 Hc3 w Q ((lcA s g ft fe env (s.items.drop (i + 1)) acc' S3).bnd k), fun H3 hN => ⟨s.items.length - (i + 1), by omega, rfl, hN⟩, fun x H3 hy => ?_⟩
      obtain ⟨m3, Hc3, x3, z3, r3⟩ := hyl x H3 hy
      cases hgd : g s.items[i] env with
      | none => rw [hgd] at p2; exact p2.elim
      | some env3 =>
        rw [hgd] at p2
        replace p2 := Pst.mono x3 p2
        refine hg _ m3 Hc3 S2 H3 x _ env env3 _ _ z3 r3 (Ze.mono (x2.trans x3) zz) hgd fun σ3 zz3 hw => ⟨(hw vs hsl).trans (wipe_wipe fun _ h => h), ?_⟩
        have p3 : Pst K mg fr rel m3 Hc3 w Q ((ft env3 S2).nox.bnd fun b S1 => (if b = true then (fe env3 S1).nox.bnd fun y S2 => if acc.length < bigN then lcA s g ft fe env (s.items.drop (i + 1)) (acc ++ [y]) S2 else .stk else lcA s g ft fe env (s.items.drop (i + 1)) acc S1).bnd k) := by
          have e : ∀ (r : Rs Bool) (k1 : Bool → Sto → Rs (List D)), (r.bnd k1).bnd k = r.bnd fun b S => (k1 b S).bnd k := fun r k1 => by cases r <;> rfl
          rw [← e]; exact p2
        refine ht _ m3 Hc3 env3 S2 σ3 H3 _ z3 zz3 (p3.bnd0 fun b S4 b' m4 Hc4 H4 x4 z4 r4 p4 => ?_)
        cases r4
        have x24 := x2.trans (x3.trans x4)
        cases b with
        | false =>
          rw [if_neg Bool.false_ne_true] at p4 ⊢
          exact ⟨m4, Hc4, S4, acc, accv, x24, z4, Reps.mono (x3.trans x4) _ _ rr2, p4⟩
        | true =>
          rw [if_pos rfl] at p4 ⊢
          have p5 : Pst K mg fr rel m4 Hc4 w Q ((fe env3 S4).nox.bnd fun y S2 => (if acc.length < bigN then lcA s g ft fe env (s.items.drop (i + 1)) (acc ++ [y]) S2 else .stk).bnd k) := by
            have e : ∀ (r : Rs D) (k1 : D → Sto → Rs (List D)), (r.bnd k1).bnd k = r.bnd fun b S => (k1 b S).bnd k := fun r k1 => by cases r <;> rfl
            rw [← e]; exact p4
          refine he _ m4 Hc4 env3 S4 σ3 H4 _ z4 (Ze.mono x4 zz3) (p5.bnd0 fun y S5 yv m5 Hc5 H5 x5 z5 r5 p6 => ?_)
          have rr5 := Reps.mono (x3.trans (x4.trans x5)) _ _ rr2
          by_cases hl : acc.length < bigN
          · rw [if_pos hl] at p6
            refine ⟨accv, (z5.frm _ List.mem_cons_self).1, by rw [rr5.length]; exact Nat.lt_of_lt_of_le hl (by decide), ?_⟩
            exact ⟨m5, Hc5, S5, acc ++ [y], accv ++ [yv], x24.trans x5, z5.reframe, rr5.append (Reps.one r5), p6⟩
          · rw [if_neg hl] at p6; exact p6.elim
    · rw [if_neg hok] at p2; exact p2.elim
  · left
    rw [List.drop_of_length_le (Nat.le_of_not_lt hlt)] at p2
    unfold lcA at p2
    by_cases hok : s.okAt S2 = true
    · rw [if_pos hok] at p2
      exact ⟨(r1 _ m2 Hc2 S2 H' i x2 z2 hok).2 (Nat.le_of_not_lt hlt), fin H' m2 Hc2 S2 acc accv x2 z2 rr2 p2⟩
    · rw [if_neg hok] at p2; exact p2.elim
/-- the new list, frozen or mutable -/
inductive Mk where
  | frz | cel
def Mk.res : Mk → List D → Sto → Rs D
  | .frz, acc, S => .ok (.lst acc) S
  | .cel, acc, S => .ok (.ptr S.length) (S ++ [.lst acc])
theorem Mk.done {fr m Hc S H w Q} {Dn : Addr} {acc : List D} {accv : List V} (k : Mk) (z : Zh K ((Dn, .lst accv) :: fr) m Hc S H) (rr : Reps K Hc m acc accv) (p : Pst K mg fr (fun Hc m d v => Rep K Hc m d v) m Hc w Q (k.res acc S)) : Q (.ref Dn) H := by
  cases k with
  | frz =>
    obtain ⟨z', x⟩ := z.unframe
    exact p _ _ _ _ x z' ⟨Dn, accv, rfl, upd_same, Reps.mono x _ _ rr⟩
  | cel =>
    obtain ⟨z', x⟩ := z.unframeC rr
    exact p _ _ _ _ x z' ⟨Dn, rfl, by rw [← z.len, List.getElem?_append_right (Nat.le_refl _)]; simp⟩
noncomputable def zLcK (k : Mk) (vs : List Nat) (fi : EI) (g : GM) (ft : EM Bool) (fe : EM D) : EM D := fun env S => (fi env S).bnd fun s S1 => (lcA s g ft fe (wipeE env vs) s.items [] S1).bnd k.res
theorem lc_sd {X : Cx} {W : WX} {tg iter : Expr} {wi : TI} {fi : EI} {t : TG} {sl : List Nat} {g : GM} {vs : List Nat} (k : Mk) (hi : ZI X W tg iter wi fi) (hg : SG X.K t sl g) (hsl : ∀ i ∈ sl, i ∈ vs) (ht : ST X.K X.mg W0 tt ft) (he : SE X.K X.mg W0 te fe) : SE X.K X.mg W (tLc wi t tt te vs) (zLcK k vs fi g ft fe) := by
  intro fr m Hc env S σ H Q z zz p
  refine hi.sd fr m Hc env S σ H _ z zz (p.bnd fun s S1 J m1 Hc1 H1 x1 z1 r1 p1 => ?_)
  intro Dn hD
  have zz1 := Ze.mono x1 zz
  exact lcA_ok (acc0 := []) (accv0 := []) hg hsl ht he r1 (z1.frame hD) rfl (zz1.wipe vs) p1 fun H' m2 Hc2 S2 acc accv x2 z2 rr2 p2 => k.done z2 rr2 p2
/-- two clauses -/
noncomputable def lcB (s : Src) (g : GM) (ft : EM Bool) (fi1 : EI) (g1 : GM) (ft1 : EM Bool) (fe : EM D) (vs1 : List Nat) (env : En) : List D → List D → Sto → Rs (List D)
  | [], acc, S => if s.okAt S = true then .ok acc S else .stk
  | d :: ds, acc, S => if s.okAt S = true then (match g d env with
      | some env1 => (ft env1 S).nox.bnd fun b S1 => if b = true then (fi1 env1 S1).nox.bnd fun s1 S2 => (lcA s1 g1 ft1 fe (wipeE env1 vs1) s1.items acc S2).bnd fun acc2 S3 => lcB s g ft fi1 g1 ft1 fe vs1 env ds acc2 S3 else lcB s g ft fi1 g1 ft1 fe vs1 env ds acc S1
      | none => .stk) else .stk
noncomputable def zLc2K (k : Mk) (vs vs1 : List Nat) (fi : EI) (g : GM) (ft : EM Bool) (fi1 : EI) (g1 : GM) (ft1 : EM Bool) (fe : EM D) : EM D := fun env S => (fi env S).bnd fun s S1 => (lcB s g ft fi1 g1 ft1 fe vs1 (wipeE env vs) s.items [] S1).bnd k.res
theorem bnd_assoc {α β γ : Type} (r : Rs α) (k1 : α → Sto → Rs β) (k : β → Sto → Rs γ) : (r.bnd k1).bnd k = r.bnd fun b S => (k1 b S).bnd k := by cases r <;> rfl
def SI0 (K : PySem.W.Frag) (mg : Mg) (wi : TI) (f : EI) : Prop :=
  ∀ fr m Hc env S σ H R, Zh K fr m Hc S H → Ze K Hc m env σ → Pst K mg fr (rI K) m Hc (fun c o H => False) R (f env S) → wi σ H R
theorem lc2_sd {X : Cx} {W : WX} {tg iter : Expr} {wi wi1 : TI} {fi fi1 : EI} {t t1 : TG} {sl sl1 : List Nat} {g g1 : GM} {tt1 : TT} {ft1 : EM Bool} {vs vs1 : List Nat} (k : Mk) (hi : ZI X W tg iter wi fi) (hg : SG X.K t sl g) (hsl : ∀ i ∈ sl, i ∈ vs) (ht : ST X.K X.mg W0 tt ft)
    (hi1 : SI0 X.K X.mg wi1 fi1) (hg1 : SG X.K t1 sl1 g1) (hsl1 : ∀ i ∈ sl1, i ∈ vs1) (ht1 : ST X.K X.mg W0 tt1 ft1) (he : SE X.K X.mg W0 te fe) : SE X.K X.mg W (tLc2 wi t tt wi1 t1 tt1 te vs vs1) (zLc2K k vs vs1 fi g ft fi1 g1 ft1 fe) := by
  intro fr m Hc env S σ H Q z zz p
  refine hi.sd fr m Hc env S σ H _ z zz (p.bnd fun s S1 J m1 Hc1 H1 x1 z1 r1 p1 => ?_)
  intro Dn hD
  have zz1 := (Ze.mono x1 zz).wipe vs
  refine ⟨fun i n H' => n = s.items.length - i ∧ ∃ m2 Hc2 S2 acc accv, Ex m1 Hc1 m2 Hc2 ∧ Zh X.K ((Dn, .lst accv) :: fr) m2 Hc2 S2 H' ∧ Reps X.K Hc2 m2 acc accv ∧ Pst X.K X.mg fr (fun Hc m d v => Rep X.K Hc m d v) m2 Hc2 (fun c o H => W c o σ H) Q ((lcB s g ft fi1 g1 ft1 fe vs1 (wipeE env vs) (s.items.drop i) acc S2).bnd k.res),
    ⟨s.items.length, by simp, m1, Hc1, S1, [], [], Ex.refl _ _, z1.frame hD, rfl, by simpa using p1⟩, ?_⟩
  rintro i n H' ⟨rfl, m2, Hc2, S2, acc, accv, x2, z2, rr2, p2⟩
  by_cases hlt : i < s.items.length
  · right
    rw [List.drop_eq_getElem_cons hlt] at p2
    unfold lcB at p2
    by_cases hok : s.okAt S2 = true
    · rw [if_pos hok] at p2
      obtain ⟨hgo, hyl⟩ := (r1 _ m2 Hc2 S2 H' i x2 z2 hok).1 _ (List.getElem?_eq_getElem hlt)
      refine ⟨hgo, fun H3 => ∃ m3 Hc3 S3 acc' accv', Ex m1 Hc1 m3 Hc3 ∧ Zh X.K ((Dn, .lst accv') :: fr) m3 Hc3 S3 H3 ∧ Reps X.K Hc3 m3 acc' accv' ∧ Pst X.K X.mg fr (fun Hc m d v => Rep X.K Hc m d v) m3 Hc3 (fun c o H => W c o σ H) Q ((lcB s g ft fi1 g1 ft1 fe vs1 (wipeE env vs) (s.items.drop (i + 1)) acc' S3).bnd k.res), fun H3 hN => ⟨s.items.length - (i + 1), by omega, rfl, hN⟩, fun x H3 hy => ?_⟩
      obtain ⟨m3, Hc3, x3, z3, r3⟩ := hyl x H3 hy
      cases hgd : g s.items[i] (wipeE env vs) with
      | none => rw [hgd] at p2; exact p2.elim
      | some env3 =>
        rw [hgd] at p2
        replace p2 := Pst.mono x3 p2
        refine hg _ m3 Hc3 S2 H3 x _ _ env3 _ _ z3 r3 (Ze.mono (x2.trans x3) zz1) hgd fun σ3 zz3 hw => ⟨(hw vs hsl).trans (wipe_wipe fun _ h => h), ?_⟩
        replace p2 := (bnd_assoc _ _ _) ▸ p2
        refine ht _ m3 Hc3 env3 S2 σ3 H3 _ z3 zz3 (p2.bnd0 fun b S4 b' m4 Hc4 H4 x4 z4 r4 p4 => ?_)
        cases r4
        have x24 := x2.trans (x3.trans x4)
        cases b with
        | false =>
          rw [if_neg Bool.false_ne_true] at p4 ⊢
          exact ⟨m4, Hc4, S4, acc, accv, x24, z4, Reps.mono (x3.trans x4) _ _ rr2, p4⟩
        | true =>
          rw [if_pos rfl] at p4 ⊢
          rw [bnd_assoc] at p4
          have zz4 := Ze.mono x4 zz3
          refine hi1 _ m4 Hc4 env3 S4 σ3 H4 _ z4 zz4 (p4.bnd0 fun s1 S5 J1 m5 Hc5 H5 x5 z5 r5 p5 => ?_)
          have rr5 := Reps.mono (x3.trans (x4.trans x5)) _ _ rr2
          rw [bnd_assoc] at p5
          refine lcA_ok hg1 hsl1 ht1 he r5 z5 rr5 ((Ze.mono x5 zz4).wipe vs1) p5 fun H6 m6 Hc6 S6 acc6 accv6 x6 z6 rr6 p6 => ?_
          exact ⟨m6, Hc6, S6, acc6, accv6, x24.trans (x5.trans x6), z6, rr6, p6⟩
    · rw [if_neg hok] at p2; exact p2.elim
  · left
    rw [List.drop_of_length_le (Nat.le_of_not_lt hlt)] at p2
    unfold lcB at p2
    by_cases hok : s.okAt S2 = true
    · rw [if_pos hok] at p2
      exact ⟨(r1 _ m2 Hc2 S2 H' i x2 z2 hok).2 (Nat.le_of_not_lt hlt), k.done z2 rr2 p2⟩
    · rw [if_neg hok] at p2; exact p2.elim
end
/-- a clause's tests -/
structure ZTs (X : Cx) (W : WX) (ifs : List Expr) (t : TT) (f : EM Bool) : Prop where
  pt : PTs X ifs t
  sd : ST X.K X.mg W t f
def zYes : EM Bool := fun _ S => .ok true S
theorem zts_nil {X W} : ZTs X W [] tYes zYes := ⟨pts_nil, fun fr m Hc env S σ H Q z zz p => p.use z rfl⟩
theorem zts_one {X W} {c : Expr} {t : TT} {f : EM Bool} (h : ZT X W c t f) : ZTs X W [c] t f := ⟨pts_one h.pt, h.sd⟩
section
variable {X : Cx} {W : WX} {elt tg iter tg1 iter1 : Expr} {ifs ifs1 : List Expr} {scope : Scope} {own : List (Str × Nat)} {pos : Pos} {wi wi1 : TI} {fi fi1 : EI} {t t1 : TG} {sl sl1 : List Nat} {g g1 : GM} {tt tt1 : TT} {ft ft1 : EM Bool} {te : TE} {fe : EM D}
theorem ze_lc {k : Mk} {vs : List Nat} (hvs : own.map (·.2) = vs) (hc : X.calm = true) (hN : X.N.Nodup) (hi : ZI X W tg iter wi fi) (ok : BlkOk X.N X.env.scope scope own)
    (hg : ∀ (s : Shared) (H : Hp) (C : Addr) (cl : List (Str × Addr)) (fp : List Addr), ZG (X.blk s H scope (compEnvC scope cl C X.env) fp) tg t sl g) (ht : ∀ (s : Shared) (H : Hp) (C : Addr) (cl : List (Str × Addr)) (fp : List Addr), ZTs (X.blk s H scope (compEnvC scope cl C X.env) fp) W0 ifs tt ft)
    (he : ∀ (s : Shared) (H : Hp) (C : Addr) (cl : List (Str × Addr)) (fp : List Addr), ZE (X.blk s H scope (compEnvC scope cl C X.env) fp) W0 elt te fe) (hsl : ∀ i ∈ sl, i ∈ vs := by decide) (hs : ∀ x, foldedSetIterable iter X.env x = pure x := by intro _; rfl) :
    ZE X W (.ListComp elt [⟨tg, iter, ifs, 0⟩] scope pos) (tLc wi t tt te vs) (zLcK k vs fi g ft fe) := by
  subst hvs
  refine ⟨pe_lc hc hN hi.pi ok (fun s H C cl fp => (hg s H C cl fp).pg) (fun s H C cl fp => (ht s H C cl fp).pt) (fun s H C cl fp => (he s H C cl fp).pe) hs, ?_⟩
  exact lc_sd k hi (hg X.s_0 X.H_0 0 [] []).sd hsl (ht X.s_0 X.H_0 0 [] []).sd (he X.s_0 X.H_0 0 [] []).sd
theorem zs_setLc {k : Mk} {vs : List Nat} {i : Nat} {y : Str} {py spos : Pos} (hvs : own.map (·.2) = vs) (hc : X.calm = true) (hN : X.N.Nodup) (hy : X.N[i]? = some y) (hyl : X.env.scope.names.lookup y = some .local)
    (hsw : swapsWith (.ListComp elt [⟨tg, iter, ifs, 0⟩] scope pos) (some (.Name y py)) spos.line X.env = pure true) (hi : ZI X W tg iter wi fi) (ok : BlkOk X.N X.env.scope scope own)
    (hg : ∀ (s : Shared) (H : Hp) (C : Addr) (cl : List (Str × Addr)) (fp : List Addr), ZG (X.blk s H scope (compEnvC scope cl C X.env) fp) tg t sl g) (ht : ∀ (s : Shared) (H : Hp) (C : Addr) (cl : List (Str × Addr)) (fp : List Addr), ZTs (X.blk s H scope (compEnvC scope cl C X.env) fp) W0 ifs tt ft)
    (he : ∀ (s : Shared) (H : Hp) (C : Addr) (cl : List (Str × Addr)) (fp : List Addr), ZE (X.blk s H scope (compEnvC scope cl C X.env) fp) W0 elt te fe) (hsl : ∀ i ∈ sl, i ∈ vs := by decide) (hs : ∀ x, foldedSetIterable iter X.env x = pure x := by intro _; rfl) :
    ZS X W (.Assign [.Name y py] (.ListComp elt [⟨tg, iter, ifs, 0⟩] scope pos) spos) (tAsg (tLc wi t tt te vs) (gName i)) (zSet i (zLcK k vs fi g ft fe)) := by
  subst hvs
  refine ⟨ps_setLc hc hN hy hyl hsw hi.pi ok (fun s H C cl fp => (hg s H C cl fp).pg) (fun s H C cl fp => (ht s H C cl fp).pt) (fun s H C cl fp => (he s H C cl fp).pe) hs, ?_⟩
  exact ss_set (lc_sd k hi (hg X.s_0 X.H_0 0 [] []).sd hsl (ht X.s_0 X.H_0 0 [] []).sd (he X.s_0 X.H_0 0 [] []).sd)
theorem ze_lc2 {k : Mk} {vs vs1 : List Nat} (hvs : own.map (·.2) = vs) (hc : X.calm = true) (hN : X.N.Nodup) (hi : ZI X W tg iter wi fi) (ok : BlkOk X.N X.env.scope scope own) (hv : ∀ i ∈ vs1, i ∈ own.map (·.2))
    (hg : ∀ (s : Shared) (H : Hp) (C : Addr) (cl : List (Str × Addr)) (fp : List Addr), ZG (X.blk s H scope (compEnvC scope cl C X.env) fp) tg t sl g) (ht : ∀ (s : Shared) (H : Hp) (C : Addr) (cl : List (Str × Addr)) (fp : List Addr), ZTs (X.blk s H scope (compEnvC scope cl C X.env) fp) W0 ifs tt ft)
    (hi1 : ∀ (s : Shared) (H : Hp) (C : Addr) (cl : List (Str × Addr)) (fp : List Addr), ZI (X.blk s H scope (compEnvC scope cl C X.env) fp) W0 tg1 iter1 wi1 fi1)
    (hg1 : ∀ (s : Shared) (H : Hp) (C : Addr) (cl : List (Str × Addr)) (fp : List Addr), ZG (X.blk s H scope (compEnvC scope cl C X.env) fp) tg1 t1 sl1 g1) (ht1 : ∀ (s : Shared) (H : Hp) (C : Addr) (cl : List (Str × Addr)) (fp : List Addr), ZTs (X.blk s H scope (compEnvC scope cl C X.env) fp) W0 ifs1 tt1 ft1)
    (he : ∀ (s : Shared) (H : Hp) (C : Addr) (cl : List (Str × Addr)) (fp : List Addr), ZE (X.blk s H scope (compEnvC scope cl C X.env) fp) W0 elt te fe) (hsl : ∀ i ∈ sl, i ∈ vs := by decide) (hsl1 : ∀ i ∈ sl1, i ∈ vs1 := by decide)
    (hs : ∀ x, foldedSetIterable iter X.env x = pure x := by intro _; rfl) (hs1 : ∀ env x, foldedSetIterable iter1 env x = pure x := by intro _ _; rfl) :
    ZE X W (.ListComp elt [⟨tg, iter, ifs, 0⟩, ⟨tg1, iter1, ifs1, 0⟩] scope pos) (tLc2 wi t tt wi1 t1 tt1 te vs vs1) (zLc2K k vs vs1 fi g ft fi1 g1 ft1 fe) := by
  subst hvs
  refine ⟨pe_lc2 hc hN hi.pi ok hv (fun s H C cl fp => (hg s H C cl fp).pg) (fun s H C cl fp => (ht s H C cl fp).pt) (fun s H C cl fp => (hi1 s H C cl fp).pi) (fun s H C cl fp => (hg1 s H C cl fp).pg) (fun s H C cl fp => (ht1 s H C cl fp).pt) (fun s H C cl fp => (he s H C cl fp).pe) hs hs1, ?_⟩
  exact lc2_sd k hi (hg X.s_0 X.H_0 0 [] []).sd hsl (ht X.s_0 X.H_0 0 [] []).sd (hi1 X.s_0 X.H_0 0 [] []).sd (hg1 X.s_0 X.H_0 0 [] []).sd hsl1 (ht1 X.s_0 X.H_0 0 [] []).sd (he X.s_0 X.H_0 0 [] []).sd
theorem zs_setLc2 {k : Mk} {vs vs1 : List Nat} {i : Nat} {y : Str} {py spos : Pos} (hvs : own.map (·.2) = vs) (hc : X.calm = true) (hN : X.N.Nodup) (hy : X.N[i]? = some y) (hyl : X.env.scope.names.lookup y = some .local)
    (hsw : swapsWith (.ListComp elt [⟨tg, iter, ifs, 0⟩, ⟨tg1, iter1, ifs1, 0⟩] scope pos) (some (.Name y py)) spos.line X.env = pure true) (hi : ZI X W tg iter wi fi) (ok : BlkOk X.N X.env.scope scope own) (hv : ∀ i ∈ vs1, i ∈ own.map (·.2))
    (hg : ∀ (s : Shared) (H : Hp) (C : Addr) (cl : List (Str × Addr)) (fp : List Addr), ZG (X.blk s H scope (compEnvC scope cl C X.env) fp) tg t sl g) (ht : ∀ (s : Shared) (H : Hp) (C : Addr) (cl : List (Str × Addr)) (fp : List Addr), ZTs (X.blk s H scope (compEnvC scope cl C X.env) fp) W0 ifs tt ft)
    (hi1 : ∀ (s : Shared) (H : Hp) (C : Addr) (cl : List (Str × Addr)) (fp : List Addr), ZI (X.blk s H scope (compEnvC scope cl C X.env) fp) W0 tg1 iter1 wi1 fi1)
    (hg1 : ∀ (s : Shared) (H : Hp) (C : Addr) (cl : List (Str × Addr)) (fp : List Addr), ZG (X.blk s H scope (compEnvC scope cl C X.env) fp) tg1 t1 sl1 g1) (ht1 : ∀ (s : Shared) (H : Hp) (C : Addr) (cl : List (Str × Addr)) (fp : List Addr), ZTs (X.blk s H scope (compEnvC scope cl C X.env) fp) W0 ifs1 tt1 ft1)
    (he : ∀ (s : Shared) (H : Hp) (C : Addr) (cl : List (Str × Addr)) (fp : List Addr), ZE (X.blk s H scope (compEnvC scope cl C X.env) fp) W0 elt te fe) (hsl : ∀ i ∈ sl, i ∈ vs := by decide) (hsl1 : ∀ i ∈ sl1, i ∈ vs1 := by decide)
    (hs : ∀ x, foldedSetIterable iter X.env x = pure x := by intro _; rfl) (hs1 : ∀ env x, foldedSetIterable iter1 env x = pure x := by intro _ _; rfl) :
    ZS X W (.Assign [.Name y py] (.ListComp elt [⟨tg, iter, ifs, 0⟩, ⟨tg1, iter1, ifs1, 0⟩] scope pos) spos) (tAsg (tLc2 wi t tt wi1 t1 tt1 te vs vs1) (gName i)) (zSet i (zLc2K k vs vs1 fi g ft fi1 g1 ft1 fe)) := by
  subst hvs
  refine ⟨ps_setLc2 hc hN hy hyl hsw hi.pi ok hv (fun s H C cl fp => (hg s H C cl fp).pg) (fun s H C cl fp => (ht s H C cl fp).pt) (fun s H C cl fp => (hi1 s H C cl fp).pi) (fun s H C cl fp => (hg1 s H C cl fp).pg) (fun s H C cl fp => (ht1 s H C cl fp).pt) (fun s H C cl fp => (he s H C cl fp).pe) hs hs1, ?_⟩
  exact ss_set (lc2_sd k hi (hg X.s_0 X.H_0 0 [] []).sd hsl (ht X.s_0 X.H_0 0 [] []).sd (hi1 X.s_0 X.H_0 0 [] []).sd (hg1 X.s_0 X.H_0 0 [] []).sd hsl1 (ht1 X.s_0 X.H_0 0 [] []).sd (he X.s_0 X.H_0 0 [] []).sd)
end
end Z

namespace Z
open PySem L2
open PySem.Spec PyProof.Rows
variable [Tabs]

/-! ### what a value leans on in the store -/
mutual
def D.cl (k : Nat) : D → Prop
  | .tup ds => D.cls k ds
  | .rot ds => D.cls k ds
  | .lst ds => D.cls k ds
  | .dct _ ds => D.cls k ds
  | .ptr n => n < k
  | _ => True
def D.cls (k : Nat) : List D → Prop
  | [] => True
  | d :: ds => D.cl k d ∧ D.cls k ds
end
def C.cl (k : Nat) : C → Prop
  | .lst ds => D.cls k ds
  | .dct _ ds => D.cls k ds
  | .dtt _ _ ds => D.cls k ds
  | .obj _ _ ds => D.cls k ds
  | .gone => True
mutual
theorem Rep.cl {K Hc} {m : List Addr} : ∀ (d : D) (v : V), Rep K Hc m d v → D.cl m.length d
  | .non, _, _ => trivial
  | .bl _, _, _ => trivial
  | .int _, _, _ => trivial
  | .str _, _, _ => trivial
  | .rol _, _, _ => trivial
  | .rng _ _, _, _ => trivial
  | .ty _, _, _ => trivial
  | .tup ds, _, ⟨_, vs, _, _, r⟩ => Reps.cl ds vs r
  | .rot ds, _, ⟨_, vs, _, _, r⟩ => Reps.cl ds vs r
  | .lst ds, _, ⟨_, vs, _, _, r⟩ => Reps.cl ds vs r
  | .dct _ ds, _, ⟨_, vs, _, _, _, r⟩ => Reps.cl ds vs r
  | .ptr n, _, ⟨_, _, h⟩ => (List.getElem?_eq_some_iff.mp h).1
theorem Reps.cl {K Hc} {m : List Addr} : ∀ (ds : List D) (vs : List V), Reps K Hc m ds vs → D.cls m.length ds
  | [], _, _ => trivial
  | d :: ds, _, ⟨v, r, _, h1, h2⟩ => ⟨Rep.cl d v h1, Reps.cl ds r h2⟩
end
mutual
theorem Rep.cut {K Hc} {m l : List Addr} : ∀ (d : D) (v : V), D.cl m.length d → Rep K Hc (m ++ l) d v → Rep K Hc m d v
  | .non, _, _, h => h
  | .bl _, _, _, h => h
  | .int _, _, _, h => h
  | .str _, _, _, h => h
  | .rol _, _, _, h => h
  | .rng _ _, _, _, h => h
  | .ty _, _, _, h => h
  | .tup ds, _, c, ⟨a, vs, e, q, r⟩ => ⟨a, vs, e, q, Reps.cut0 ds vs c r⟩
  | .rot ds, _, c, ⟨a, vs, e, q, r⟩ => ⟨a, vs, e, q, Reps.cut0 ds vs c r⟩
  | .lst ds, _, c, ⟨a, vs, e, q, r⟩ => ⟨a, vs, e, q, Reps.cut0 ds vs c r⟩
  | .dct _ ds, _, c, ⟨a, vs, e, q, l, r⟩ => ⟨a, vs, e, q, l, Reps.cut0 ds vs c r⟩
  | .ptr n, _, c, ⟨a, e, h⟩ => ⟨a, e, by rw [List.getElem?_append_left c] at h; exact h⟩
theorem Reps.cut0 {K Hc} {m l : List Addr} : ∀ (ds : List D) (vs : List V), D.cls m.length ds → Reps K Hc (m ++ l) ds vs → Reps K Hc m ds vs
  | [], _, _, h => h
  | d :: ds, _, c, ⟨v, r, e, h1, h2⟩ => ⟨v, r, e, Rep.cut d v c.1 h1, Reps.cut0 ds r c.2 h2⟩
end
/-- the store back to its first k cells -/
theorem Zh.drop {K fr} {m l : List Addr} {Hc H : Hp} {S : Sto} (z : Zh K fr (m ++ l) Hc S H) (h : ∀ n c, n < m.length → S[n]? = some c → C.cl m.length c) : Zh K fr m Hc (S.take m.length) H := by
  have hl := z.len
  rw [List.length_append] at hl
  refine ⟨z.sub, by rw [List.length_take]; omega, z.nd.sublist (List.sublist_append_left _ _), fun n a c h1 h2 => ?_, fun p hp => ?_, z.fnd, z.nt, fun P hP => let h := z.tab P hP; ⟨h.1, h.2.1, fun q => h.2.2.1 (List.mem_append_left _ q), h.2.2.2⟩⟩
  · have hn : n < m.length := (List.getElem?_eq_some_iff.mp h1).1
    rw [List.getElem?_take_of_lt hn] at h2
    have q := z.cel n a c (by rw [List.getElem?_append_left hn]; exact h1) h2
    cases c with
    | gone => exact q
    | lst ds =>
      obtain ⟨q1, vs, q2, q3⟩ := q
      exact ⟨q1, vs, q2, Reps.cut0 ds vs (h n _ hn h2) q3⟩
    | dct ks ds =>
      obtain ⟨q1, vs, q2, ql, q3⟩ := q
      exact ⟨q1, vs, q2, ql, Reps.cut0 ds vs (h n _ hn h2) q3⟩
    | dtt lk ks ds =>
      cases lk with
      | false =>
        obtain ⟨q1, vs, q2, ql, q3⟩ := q
        exact ⟨q1, vs, q2, ql, Reps.cut0 ds vs (h n _ hn h2) q3⟩
      | true =>
        obtain ⟨od, vs, q2, ql, q3⟩ := q
        exact ⟨od, vs, q2, ql, Reps.cut0 ds vs (h n _ hn h2) q3⟩
    | obj nm ks ds =>
      obtain ⟨q1, dx, vs, q2, ql, q3⟩ := q
      exact ⟨q1, dx, vs, q2, ql, Reps.cut0 ds vs (h n _ hn h2) q3⟩
  · obtain ⟨h1, h2, h3⟩ := z.frm p hp
    exact ⟨h1, h2, fun e => h3 (List.mem_append_left _ e)⟩

/-! ### freezing -/
mutual
def frz : Nat → D → Sto → Option (D × Sto)
  | 0, d, S => some (d, S)
  | k + 1, .ptr n, S => match S[n]? with
    | some (.lst ds) => match frzs k ds S with
      | some (es, S1) => match S1[n]? with
        | some (.lst _) => some (.lst es, S1.set n .gone)
        | _ => none
      | none => none
    | _ => none
  | k + 1, .tup ds, S => match frzs k ds S with
    | some (es, S1) => some (.tup es, S1)
    | none => none
  | k + 1, .dct ks ds, S => match frzs k ds S with
    | some (es, S1) => if es.length = ds.length then some (.dct ks es, S1) else none
    | none => none
  | _ + 1, d, S => some (d, S)
def frzs : Nat → List D → Sto → Option (List D × Sto)
  | 0, ds, S => some (ds, S)
  | _ + 1, [], S => some ([], S)
  | k + 1, d :: ds, S => match frz (k + 1) d S with
    | some (e, S1) => match frzs (k + 1) ds S1 with
      | some (es, S2) => some (e :: es, S2)
      | none => none
    | none => none
end
theorem Zh.freezeAs {K fr m Hc S H} (z : Zh K fr m Hc S H) {n : Nat} {a : Addr} {ds es : List D} {vs : List V} (hn : m[n]? = some a) (hs : S[n]? = some (.lst ds)) (hH : H a = some (.lst vs)) (hr : Reps K Hc m es vs) :
    ∃ Hc', Zh K fr m Hc' (S.set n .gone) H ∧ Ex m Hc m Hc' ∧ Rep K Hc' m (.lst es) (.ref a) := by
  have z' := z.wr (es := es) hn hs hr
  have e : upd H a (.lst vs) = H := by
    funext b
    unfold upd
    split
    · rename_i h; rw [h, hH]
    · rfl
  rw [e] at z'
  have hl : n < S.length := (List.getElem?_eq_some_iff.mp hs).1
  obtain ⟨Hc', z2, x, r⟩ := z'.freeze hn (by rw [List.getElem?_set_self hl])
  rw [List.set_set] at z2
  exact ⟨Hc', z2, x, r⟩
mutual
theorem frz_ok {K fr m H} : ∀ (k : Nat) (d : D) (S : Sto) (d' : D) (S' : Sto) (v : V) (Hc : Hp), frz k d S = some (d', S') → Zh K fr m Hc S H → Rep K Hc m d v → ∃ Hc', Ex m Hc m Hc' ∧ Zh K fr m Hc' S' H ∧ Rep K Hc' m d' v
  | 0, d, S, d', S', v, Hc, e, z, r => by
    unfold frz at e
    cases e
    exact ⟨Hc, Ex.refl _ _, z, r⟩
  | k + 1, .ptr n, S, d', S', v, Hc, e, z, r => by
    obtain ⟨a, rfl, hn⟩ := r
    unfold frz at e
    cases h : S[n]? with
    | none => simp [h] at e
    | some c =>
      cases c with
      | gone => simp [h] at e
      | dct ks ds => simp [h] at e
      | dtt lk ks ds => simp [h] at e
      | obj nm0 ks0 ds0 => simp [h] at e
      | lst ds =>
        simp only [h] at e
        obtain ⟨_, vs, h1, h2⟩ := z.cel n a _ hn h
        cases h3 : frzs k ds S with
        | none => simp [h3] at e
        | some p =>
          obtain ⟨es, S1⟩ := p
          simp only [h3] at e
          obtain ⟨Hc1, x1, z1, r1⟩ := frzs_ok k ds S es S1 vs Hc h3 z h2
          cases h4 : S1[n]? with
          | none => simp [h4] at e
          | some c =>
            cases c with
            | gone => simp [h4] at e
            | dct ks ds => simp [h4] at e
            | dtt lk ks ds => simp [h4] at e
            | obj nm0 ks0 ds0 => simp [h4] at e
            | lst ds1 =>
              simp only [h4] at e
              cases e
              obtain ⟨Hc2, z2, x2, r2⟩ := z1.freezeAs hn h4 h1 r1
              exact ⟨Hc2, x1.trans x2, z2, r2⟩
  | k + 1, .tup ds, S, d', S', v, Hc, e, z, r => by
    obtain ⟨a, vs, rfl, q, rr⟩ := r
    unfold frz at e
    cases h3 : frzs k ds S with
    | none => simp [h3] at e
    | some p =>
      obtain ⟨es, S1⟩ := p
      simp only [h3] at e
      cases e
      obtain ⟨Hc1, x1, z1, r1⟩ := frzs_ok k ds S es _ vs Hc h3 z rr
      exact ⟨Hc1, x1, z1, a, vs, rfl, x1.sub _ _ q, r1⟩
  | k + 1, .dct ks ds, S, d', S', v, Hc, e, z, r => by
    obtain ⟨a, vs, rfl, q, l, rr⟩ := r
    unfold frz at e
    cases h3 : frzs k ds S with
    | none => simp [h3] at e
    | some p =>
      obtain ⟨es, S1⟩ := p
      simp only [h3] at e
      obtain ⟨Hc1, x1, z1, r1⟩ := frzs_ok k ds S es _ vs Hc h3 z rr
      by_cases hl : es.length = ds.length
      · rw [if_pos hl] at e
        cases e
        exact ⟨Hc1, x1, z1, a, vs, rfl, x1.sub _ _ q, l.trans hl.symm, r1⟩
      · rw [if_neg hl] at e
        cases e
  | k + 1, .non, S, d', S', v, Hc, e, z, r => by unfold frz at e; cases e; exact ⟨Hc, Ex.refl _ _, z, r⟩
  | k + 1, .bl _, S, d', S', v, Hc, e, z, r => by unfold frz at e; cases e; exact ⟨Hc, Ex.refl _ _, z, r⟩
  | k + 1, .int _, S, d', S', v, Hc, e, z, r => by unfold frz at e; cases e; exact ⟨Hc, Ex.refl _ _, z, r⟩
  | k + 1, .str _, S, d', S', v, Hc, e, z, r => by unfold frz at e; cases e; exact ⟨Hc, Ex.refl _ _, z, r⟩
  | k + 1, .lst _, S, d', S', v, Hc, e, z, r => by unfold frz at e; cases e; exact ⟨Hc, Ex.refl _ _, z, r⟩
  | k + 1, .rol _, S, d', S', v, Hc, e, z, r => by unfold frz at e; cases e; exact ⟨Hc, Ex.refl _ _, z, r⟩
  | k + 1, .rng _ _, S, d', S', v, Hc, e, z, r => by unfold frz at e; cases e; exact ⟨Hc, Ex.refl _ _, z, r⟩
  | k + 1, .ty _, S, d', S', v, Hc, e, z, r => by unfold frz at e; cases e; exact ⟨Hc, Ex.refl _ _, z, r⟩
  | k + 1, .rot _, S, d', S', v, Hc, e, z, r => by unfold frz at e; cases e; exact ⟨Hc, Ex.refl _ _, z, r⟩
theorem frzs_ok {K fr m H} : ∀ (k : Nat) (ds : List D) (S : Sto) (es : List D) (S' : Sto) (vs : List V) (Hc : Hp), frzs k ds S = some (es, S') → Zh K fr m Hc S H → Reps K Hc m ds vs → ∃ Hc', Ex m Hc m Hc' ∧ Zh K fr m Hc' S' H ∧ Reps K Hc' m es vs
  | 0, ds, S, es, S', vs, Hc, e, z, r => by
    unfold frzs at e
    cases e
    exact ⟨Hc, Ex.refl _ _, z, r⟩
  | k + 1, [], S, es, S', vs, Hc, e, z, r => by
    unfold frzs at e
    cases e
    exact ⟨Hc, Ex.refl _ _, z, r⟩
  | k + 1, d :: ds, S, es, S', vs, Hc, e, z, r => by
    obtain ⟨v, r', rfl, h1, h2⟩ := r
    unfold frzs at e
    cases h3 : frz (k + 1) d S with
    | none => simp [h3] at e
    | some p =>
      obtain ⟨d1, S1⟩ := p
      simp only [h3] at e
      obtain ⟨Hc1, x1, z1, r1⟩ := frz_ok (k + 1) d S d1 S1 v Hc h3 z h1
      cases h4 : frzs (k + 1) ds S1 with
      | none => simp [h4] at e
      | some p =>
        obtain ⟨es1, S2⟩ := p
        simp only [h4] at e
        cases e
        obtain ⟨Hc2, x2, z2, r2⟩ := frzs_ok (k + 1) ds S1 es1 _ r' Hc1 h4 z1 (Reps.mono x1 _ _ h2)
        exact ⟨Hc2, x1.trans x2, z2, v, r', rfl, Rep.mono x2 _ _ r1, r2⟩
end

/-! ### a def's promise -/
def zSp (K : PySem.W.Frag) (mg : Mg) (n : Nat) (F : List D → Sto → Rs D) : Sp := fun vs H Q E => vs.length = n ∧ ∃ fr m Hc S ds, Zh K fr m Hc S H ∧ Reps K Hc m ds vs ∧ Pst K mg fr (fun Hc m d v => Rep K Hc m d v) m Hc (fun c o H => E c o H) Q (F ds S)
structure FZ (P : Program) (w : World) (K : PySem.W.Frag) (mg : Mg) (base : Heap) (k : Nat) (x : Str) (st : Stmt) (ps : List Str) (F : List D → Sto → Rs D) : Prop where
  ex : ∃ (f : Addr) (fd : FuncData), mg x = some (.ref f) ∧ Fun K x x st f fd ∧ Binds K fd ps [] ∧ FnOk P w K mg base (L2.CX P w) k f fd ps (zSp K mg ps.length F)
/-- the body's run against what the def is worth: fu: how deep what is handed back is frozen -/
def Fin (fu : Nat) (S0 : Sto) (d : D) (S1 : Sto) (d' : D) (S' : Sto) : Prop :=
  ∃ S2, frz fu d S1 = some (d', S2) ∧ (S' = S2 ∨ (S' = S2.take S0.length ∧ S0.length ≤ S2.length ∧ D.cl S0.length d' ∧ ∀ n c, n < S0.length → S2[n]? = some c → S0[n]? = some c ∨ C.cl S0.length c))
def FinX (S0 : Sto) (e : XV) (S1 S' : Sto) : Prop :=
  S' = S1.take S0.length ∧ S0.length ≤ S1.length ∧ (∀ fs, e.fs = some fs → ∀ p ∈ fs, D.cl S0.length p.2) ∧ ∀ n c, n < S0.length → S1[n]? = some c → S0[n]? = some c ∨ C.cl S0.length c
def Impl (fu : Nat) (S0 : Sto) (r : Ss) : Rs D → Prop
  | .stk => True
  | .ok d' S' => (∃ d S1, r = .mk (.ret d) S1 ∧ Fin fu S0 d S1 d' S') ∨ ∃ env S1, r = .mk (.next env) S1 ∧ Fin fu S0 .non S1 d' S'
  | .exc e S' => ∃ env S1, r = .mk (.exc e env) S1 ∧ FinX S0 e S1 S'
def startE (N : List Str) (ds : List D) : En := ds.map some ++ List.replicate (N.length - ds.length) none
theorem ze_start {K Hc m} {N : List Str} {ds : List D} {vs : List V} (r : Reps K Hc m ds vs) : Ze K Hc m (startE N ds) (L2.start N vs) := by
  have hl := r.length
  refine ⟨by unfold startE L2.start; simp [hl], fun i d h => ?_, trivial⟩
  unfold startE at h
  by_cases hi : i < ds.length
  · rw [List.getElem?_append_left (by simpa using hi), List.getElem?_map] at h
    cases e : ds[i]? with
    | none => exact absurd h (by rw [e]; intro q; cases q)
    | some d0 =>
      rw [e] at h
      cases h
      obtain ⟨v, h1, h2⟩ := r.get e
      refine ⟨v, ?_, h2⟩
      unfold L2.start
      have hi2 : i < vs.length := by rw [hl]; exact hi
      rw [List.getElem?_append_left (by simpa using hi2), List.getElem?_map, h1]
      rfl
  · rw [List.getElem?_append_right (by simpa using hi), List.getElem?_replicate] at h
    split at h <;> cases h
theorem fin_ok {K fr m m1 Hc Hc1 S0 S1 S' fu} {H H1 : Hp} {d d' : D} {v : V} (z0 : Zh K fr m Hc S0 H) (x : Ex m Hc m1 Hc1) (z1 : Zh K fr m1 Hc1 S1 H1) (r : Rep K Hc1 m1 d v) (f : Fin fu S0 d S1 d' S') :
    ∃ m' Hc', Ex m Hc m' Hc' ∧ Zh K fr m' Hc' S' H1 ∧ Rep K Hc' m' d' v := by
  obtain ⟨S2, e, h⟩ := f
  obtain ⟨Hc2, x2, z2, r2⟩ := frz_ok fu d S1 d' S2 v Hc1 e z1 r
  rcases h with rfl | ⟨rfl, h0, h1, h2⟩
  · exact ⟨m1, Hc2, x.trans x2, z2, r2⟩
  · obtain ⟨⟨l, rfl⟩, sx⟩ := x.trans x2
    have hm : m.length = S0.length := z0.len
    refine ⟨m, Hc2, ⟨⟨[], by simp⟩, sx⟩, ?_, Rep.cut d' v (by rw [hm]; exact h1) r2⟩
    rw [← hm]
    refine z2.drop fun n c hn hc => ?_
    rcases h2 n c (by rw [← hm]; exact hn) hc with q | q
    · have ha : m[n]? = some m[n] := List.getElem?_eq_getElem hn
      cases c with
      | gone => trivial
      | lst ds =>
        obtain ⟨_, vs, _, q3⟩ := z0.cel n _ _ ha q
        exact Reps.cl ds vs q3
      | dct ks ds =>
        obtain ⟨_, vs, _, _, q3⟩ := z0.cel n _ _ ha q
        exact Reps.cl ds vs q3
      | dtt lk ks ds =>
        cases lk with
        | false =>
          obtain ⟨_, vs, _, _, q3⟩ := z0.cel n _ _ ha q
          exact Reps.cl ds vs q3
        | true =>
          obtain ⟨od, vs, _, _, q3⟩ := z0.cel n _ _ ha q
          exact Reps.cl ds vs q3
      | obj nm ks ds =>
        obtain ⟨_, dx, vs, _, _, q3⟩ := z0.cel n _ _ ha q
        exact Reps.cl ds vs q3
    · rw [hm]; exact q
theorem finX_ok {K mg fr m m1 Hc Hc1 S0 S1 S'} {H H1 : Hp} {e : XV} {cls : Value} {od : Option Addr} (z0 : Zh K fr m Hc S0 H) (x : Ex m Hc m1 Hc1) (z1 : Zh K fr m1 Hc1 S1 H1) (r : RepX K mg Hc1 m1 e cls od H1) (f : FinX S0 e S1 S') :
    ∃ m' Hc', Ex m Hc m' Hc' ∧ Zh K fr m' Hc' S' H1 ∧ RepX K mg Hc' m' e cls od H1 := by
  obtain ⟨rfl, h0, h1, h2⟩ := f
  obtain ⟨⟨l, rfl⟩, sx⟩ := x
  have hm : m.length = S0.length := z0.len
  refine ⟨m, Hc1, ⟨⟨[], by simp⟩, sx⟩, ?_, ?_⟩
  · rw [← hm]
    refine z1.drop fun n c hn hc => ?_
    rcases h2 n c (by rw [← hm]; exact hn) hc with q | q
    · have ha : m[n]? = some m[n] := List.getElem?_eq_getElem hn
      cases c with
      | gone => trivial
      | lst ds =>
        obtain ⟨_, vs, _, q3⟩ := z0.cel n _ _ ha q
        exact Reps.cl ds vs q3
      | dct ks ds =>
        obtain ⟨_, vs, _, _, q3⟩ := z0.cel n _ _ ha q
        exact Reps.cl ds vs q3
      | dtt lk ks ds =>
        cases lk with
        | false =>
          obtain ⟨_, vs, _, _, q3⟩ := z0.cel n _ _ ha q
          exact Reps.cl ds vs q3
        | true =>
          obtain ⟨od, vs, _, _, q3⟩ := z0.cel n _ _ ha q
          exact Reps.cl ds vs q3
      | obj nm ks ds =>
        obtain ⟨_, dx, vs, _, _, q3⟩ := z0.cel n _ _ ha q
        exact Reps.cl ds vs q3
    · rw [hm]; exact q
  · obtain ⟨Ca, g1, g2, g3⟩ := r
    refine ⟨Ca, g1, g2, ?_⟩
    cases hf : e.fs with
    | none => rw [hf] at g3; exact g3
    | some fs =>
      rw [hf] at g3
      obtain ⟨d, vfs, e1, e2, e3⟩ := g3
      refine ⟨d, vfs, e1, e2, ?_⟩
      have hc := h1 fs hf
      clear hf e2
      revert vfs
      induction fs with
      | nil => intro vfs e3; exact e3
      | cons p fs ih =>
        intro vfs e3
        obtain ⟨n, dd⟩ := p
        obtain ⟨v, r, rfl, q1, q2⟩ := e3
        exact ⟨v, r, rfl, Rep.cut dd v (by rw [hm]; exact hc (n, dd) List.mem_cons_self) q1, ih (fun p hp => hc p (List.mem_cons_of_mem _ hp)) r q2⟩
section
variable {P : Program} {w : World} {K : PySem.W.Frag} {mg : Mg} {base : Heap}
/-- THE RULE for a def -/
theorem fz_of {x : Str} {st : Stmt} {f : Addr} {fd : FuncData} {N ps : List Str} {k : Nat} {F : List D → Sto → Rs D} {run : SM} (fu : Nat) (gm : mg x = some (.ref f)) (hF : Fun K x x st f fd) (S : FnScope N ps (defScope st)) (hb : Binds K fd ps [])
    (body : ∀ (cdv : Value) (A : Around) (outer : List Env) (s : Shared) (H : Hp) (E : XK), Room k (A.deeper (envOfC x (defScope st) s.heap.objs.size f cdv)) →
      ∃ t, ZSs (cxOf (L2.CX P w) P w K mg base N x (defScope st) f cdv A outer s H E) (fun cls d _ H => E cls d H) (defBody st) t run)
    (impl : ∀ ds S0, ds.length = ps.length → Impl fu S0 (run (startE N ds) S0) (F ds S0)) : FZ P w K mg base (k + 1) x st ps F := by
  refine ⟨f, fd, gm, hF, hb, hF.okX S (fun vs H Q E h => h.1) fun cdv A outer s H vs Q E hr hsp => ?_⟩
  obtain ⟨hl, fr, m, Hc, S0, ds, z, r, p⟩ := hsp
  obtain ⟨t, zs⟩ := body cdv A outer s H E hr
  refine ⟨t, zs.ps, ?_⟩
  have im := impl ds S0 (by rw [← r.length]; exact hl)
  refine zs.sd fr m Hc (startE N ds) S0 (L2.start N vs) H _ z (ze_start r) ?_
  cases h : F ds S0 with
  | stk => rw [h] at p; exact p.elim
  | ok d' S' =>
    rw [h] at p im
    rcases im with ⟨d, S1, e, fi⟩ | ⟨env, S1, e, fi⟩
    · show PstS _ _ _ _ _ _ _ (run (startE N ds) S0)
      rw [e]
      intro v m1 Hc1 H1 x1 z1 r1
      obtain ⟨m2, Hc2, x2, z2, r2⟩ := fin_ok z x1 z1 r1 fi
      exact p v m2 Hc2 H1 x2 z2 r2
    · show PstS _ _ _ _ _ _ _ (run (startE N ds) S0)
      rw [e]
      intro σ1 m1 Hc1 H1 x1 z1 _
      obtain ⟨m2, Hc2, x2, z2, r2⟩ := fin_ok (d := .non) (v := .non) z x1 z1 rfl fi
      exact p .non m2 Hc2 H1 x2 z2 r2
  | exc e S' =>
    rw [h] at p im
    obtain ⟨env, S1, e1, fi⟩ := im
    show PstS _ _ _ _ _ _ _ (run (startE N ds) S0)
    rw [e1]
    intro σ' cls od m1 Hc1 H1 x1 z1 _ r1
    obtain ⟨m2, Hc2, x2, z2, r2⟩ := finX_ok z x1 z1 r1 fi
    exact p cls od m2 Hc2 H1 x2 z2 r2
end
/-! ### calls -/
def zCallF (n : Nat) (F : List D → Sto → Rs D) (a : EM (List D)) : EM D := fun env S => (a env S).bnd fun xs S1 => if xs.length = n then F xs S1 else .stk
section
variable {X : Cx} {W : WX} {pos p : Pos} {x : Str} {st : Stmt} {ps : List Str} {k : Nat} {F : List D → Sto → Rs D} {e : Expr} {es : List Expr} {t : TA} {f : EM (List D)}
theorem ze_call [Hot] (h : FZ X.prog X.w X.K X.mg X.base k x st ps F) (hr : Room k X.A) (hg : Gl X x) (tk : Takes X W) (ha : ZA X W (e :: es) t f) (hdb : (x == ("__debug__" : Str)) = false := by decide) (he : starEach (e :: es) X.env = (false, eval e X.env) :: starEach es X.env := by rfl)
    (hpl : (backTo pos (starEach es X.env)).any (·.1) = false := by rfl) :
    ZE X W (.Call (.Name x p) (e :: es) [] pos) (tCallS (zSp X.K X.mg ps.length F) (WE W) t) (zCallF ps.length F f) := by
  obtain ⟨fa, fd, gm, hF, hb, ok⟩ := h.ex
  refine ⟨pe_callS ok hr hg gm hF.kp hb (fun σ => passAt tk σ) ha.pa hdb he hpl, ?_⟩
  intro fr m Hc env S σ H Q z zz p
  refine ha.sd fr m Hc env S σ H _ z zz (p.bnd fun xs S1 vs m1 Hc1 H1 x1 z1 r1 p1 => ?_)
  by_cases hl : xs.length = ps.length
  · rw [if_pos hl] at p1
    exact ⟨by rw [r1.length]; exact hl, fr, m1, Hc1, S1, xs, z1, r1, p1⟩
  · rw [if_neg hl] at p1; exact p1.elim
end
end Z

namespace Z
open PySem L2
open PySem.Spec PyProof.Rows
variable [Tabs]

/-! ### [..] * n, mutable -/
def dMulC (x y : D) (S : Sto) : Rs D := match x, y with
  | .lst xs, .int k => if k ≤ 1000000 ∧ -1000000 ≤ k ∧ xs.length * k.toNat ≤ bigN then .ok (.ptr S.length) (S ++ [.lst (List.replicate k.toNat xs).flatten]) else .stk
  | _, _ => .stk
theorem os_mulC {K mg} : OS K mg rMulZ dMulC := by
  intro fr m Hc S H x y dx dy w Q z r1 r2 p
  cases dx with
  | lst xs =>
    cases dy <;> first | exact p.elim | skip
    rename_i k
    cases r2
    simp only [dMulC] at p
    by_cases e : k ≤ 1000000 ∧ -1000000 ≤ k ∧ xs.length * k.toNat ≤ bigN
    · rw [if_pos e] at p
      obtain ⟨a, vs, e1, h1, h2⟩ := r1
      subst e1
      refine .inr ⟨a, k, vs, rfl, rfl, z.sub _ _ h1, by omega, by omega, by rw [h2.length]; exact big_le e.2.2, fun q hq => ?_⟩
      exact p.useC z hq (h2.rep _)
    · rw [if_neg e] at p; exact p.elim
  | _ => cases dy <;> exact p.elim
theorem zo_mulC {X : Cx} : ZO X (binaryOp .Mult) rMulZ dMulC := ⟨op_mul.or op_rep, os_mulC⟩

/-! ### a comparison in two steps, as a test -/
section
variable {X : Cx} {W : WX} {pos : Pos} {a b c : Expr} {ta tb tc : TE} {fa fb fc : EM D}
end

/-! ### isinstance -/
def tyD (d : D) (S : Sto) : Option String := match d with
  | .non => some "NoneType"
  | .bl _ => some "bool"
  | .int _ => some "int"
  | .str _ => some "str"
  | .tup _ => some "tuple"
  | .lst _ => some "list"
  | .ptr n => match S[n]? with
    | some (C.lst _) => some "list"
    | _ => none
  | _ => none
def subT (a b : String) : Bool := a == b || (a == "bool" && b == "int")
def tyNames : List String := ["NoneType", "bool", "int", "str", "tuple", "list"]
def clNames : List String := ["int", "str", "bool", "list", "tuple", "dict"]
theorem kitB_sub : ∀ a ∈ tyNames, ∀ b ∈ clNames, kitB a b = some (subT a b) := by decide +kernel
theorem tyD_ok {K fr m Hc S H} (z : Zh K fr m Hc S H) {d : D} {v : V} {t : String} (r : Rep K Hc m d v) (e : tyD d S = some t) : TyX K H v (.type t) ∧ t ∈ tyNames := by
  cases d with
  | non => cases r; cases e; exact ⟨.base .non, by decide⟩
  | bl b => cases r; cases e; exact ⟨.base (.bl b), by decide⟩
  | int b => cases r; cases e; exact ⟨.base (.int b), by decide⟩
  | str b => cases r; cases e; exact ⟨.base (.str b), by decide⟩
  | tup ds => obtain ⟨a, vs, rfl, q, _⟩ := r; cases e; exact ⟨.base (.tup (z.sub _ _ q)), by decide⟩
  | lst ds => obtain ⟨a, vs, rfl, q, _⟩ := r; cases e; exact ⟨.base (.lst (z.sub _ _ q)), by decide⟩
  | ptr n =>
    obtain ⟨a, rfl, hn⟩ := r
    unfold tyD at e
    cases h : S[n]? with
    | none => simp [h] at e
    | some c =>
      cases c with
      | gone => simp [h] at e
      | dct ks0 ds0 => simp [h] at e
      | dtt lk0 ks0 ds0 => simp [h] at e
      | obj nm0 ks0 ds0 => simp [h] at e
      | lst ds =>
        simp [h] at e
        subst e
        obtain ⟨_, vs, h1, _⟩ := z.cel n a _ hn h
        exact ⟨.base (.lst h1), by decide⟩
  | _ => cases e
def zIsi (ns : List String) (a : EM D) : EM D := fun env S => (a env S).bnd fun x S1 => match tyD x S1 with
  | some t => .ok (.bl (ns.any (subT t))) S1
  | none => .stk
section
variable {X : Cx} {W : WX} {p pos p1 p2 tpos : Pos} {a : Expr} {ta : TE} {fa : EM D} {i1 : Str} {tk : Nat}
/-- isinstance(x, T) -/
theorem ze_isi [Hot] {T : String} {x : Str} (hg : Gl X "isinstance") (hm : X.mg "isinstance" = none) (hmT : X.mg x = none) (hvT : bootBuiltins x = some (.type T)) (ha : ZE X W a ta fa) (hgT : Gl X x := by rfl) (hT : T ∈ clNames := by decide) (hnT : x ≠ "__name__" := by decide) (hdT : (x == ("__debug__" : Str)) = false := by decide)
    (he : starEach [a, .Name x p1] X.env = (false, eval a X.env) :: starEach [.Name x p1] X.env := by rfl) (he2 : starEach [.Name x p1] X.env = (false, eval (.Name x p1) X.env) :: starEach [] X.env := by rfl) (hpl : (backTo pos (starEach [.Name x p1] X.env)).any (·.1) = false := by rfl) :
    ZE X W (.Call (.Name "isinstance" p) [a, .Name x p1] [] pos) (tCB (rIsi X.K) (tCons ta (tCons (tC (.ty T)) tNil))) (zIsi [T] fa) := by
  refine ⟨pe_callB call_isi hg hm (by decide +kernel) (pa_cons ha.pe (pa_cons (pe_bltn hgT hmT hvT rfl hnT hdT) pa_nil he2) he) (by decide) (by decide) he hpl, ?_⟩
  intro fr m Hc env S σ H Q z zz q
  refine ha.sd fr m Hc env S σ H _ z zz (q.bnd fun x S1 v m1 Hc1 H1 x1 z1 r1 q1 => ?_)
  cases e : tyD x S1 with
  | none => simp [e] at q1; exact q1.elim
  | some t =>
    simp only [e] at q1
    obtain ⟨h1, h2⟩ := tyD_ok z1 r1 e
    refine ⟨v, .ty T, .type t, .type T, subT t T, rfl, .ty T, h1, kit_ty (kitB_sub t h2 T hT), ?_⟩
    have e2 : [T].any (subT t) = subT t T := by simp
    rw [e2] at q1
    exact q1.use z1 rfl
end

/-! ### sorted of pairs of ints -/
def pairOf : D → Option (Int × Int)
  | .tup [.int i, .int j] => some (i, j)
  | _ => none
def pairD (p : Int × Int) : D := .tup [.int p.1, .int p.2]
theorem pairOf_D (p : Int × Int) : pairOf (pairD p) = some p := rfl
theorem pairOf_some {d : D} {p : Int × Int} (h : pairOf d = some p) : d = pairD p := by
  unfold pairOf at h
  split at h
  · cases h; rfl
  · cases h
def pairsOf : List D → Option (List (Int × Int))
  | [] => some []
  | d :: ds => match pairOf d, pairsOf ds with
    | some p, some ps => some (p :: ps)
    | _, _ => none
theorem pairsOf_map : ∀ ps : List (Int × Int), pairsOf (ps.map pairD) = some ps
  | [] => rfl
  | p :: ps => by rw [List.map_cons]; unfold pairsOf; rw [pairOf_D, pairsOf_map ps]
theorem pairsOf_some : ∀ {ds : List D} {ps : List (Int × Int)}, pairsOf ds = some ps → ds = ps.map pairD
  | [], ps, h => by cases h; rfl
  | d :: ds, ps, h => by
    unfold pairsOf at h
    cases h1 : pairOf d with
    | none => simp [h1] at h
    | some p =>
      cases h2 : pairsOf ds with
      | none => simp [h1, h2] at h
      | some qs =>
        simp [h1, h2] at h
        subst h
        rw [List.map_cons, pairOf_some h1, pairsOf_some h2]
def insP (p : Int × Int) : List (Int × Int) → List (Int × Int)
  | [] => [p]
  | q :: r => if SrtO.lexB q p = true then q :: insP p r else p :: q :: r
def sortP : List (Int × Int) → List (Int × Int)
  | [] => []
  | p :: r => insP p (sortP r)
def dSorted (xs : List D) (S : Sto) : Rs D := match xs with
  | [d] => match seqOf d S with
    | some ds => match pairsOf ds with
      | some ps => .ok (.lst ((sortP ps).map pairD)) S
      | none => .stk
    | none => .stk
  | _ => .stk
theorem insP_perm (p : Int × Int) : ∀ l : List (Int × Int), (insP p l).Perm (p :: l)
  | [] => .refl _
  | q :: r => by
    unfold insP
    split
    · exact ((insP_perm p r).cons q).trans (.swap p q r)
    · exact .refl _
theorem sortP_perm : ∀ l : List (Int × Int), (sortP l).Perm l
  | [] => .refl _
  | p :: r => (insP_perm p _).trans ((sortP_perm r).cons p)
theorem insP_srt (p : Int × Int) : ∀ l : List (Int × Int), l.Pairwise (fun x y => SrtO.lexB y x = false) → (insP p l).Pairwise (fun x y => SrtO.lexB y x = false)
  | [], _ => by simp [insP]
  | q :: r, h => by
    obtain h' := List.pairwise_cons.mp h
    unfold insP
    split
    · rename_i e
      refine List.pairwise_cons.mpr ⟨fun y hy => ?_, insP_srt p r h'.2⟩
      rcases List.mem_cons.mp ((insP_perm p r).mem_iff.mp hy) with rfl | hy
      · have a := SrtO.lexB_iff.mp e
        refine SrtO.lexB_no.mpr ?_
        omega
      · exact h'.1 y hy
    · rename_i e
      have e' : SrtO.lexB q p = false := by simpa using e
      refine List.pairwise_cons.mpr ⟨fun y hy => ?_, h⟩
      rcases List.mem_cons.mp hy with rfl | hy2
      · exact e'
      · have a := SrtO.lexB_no.mp e'
        have b := SrtO.lexB_no.mp (h'.1 y hy2)
        refine SrtO.lexB_no.mpr ?_
        omega
theorem sortP_srt : ∀ l : List (Int × Int), (sortP l).Pairwise (fun x y => SrtO.lexB y x = false)
  | [] => List.Pairwise.nil
  | p :: r => insP_srt p _ (sortP_srt r)
theorem lex_anti {x y : Int × Int} (h1 : SrtO.lexB x y = false) (h2 : SrtO.lexB y x = false) : x = y := by
  have a := SrtO.lexB_no.mp h1
  have b := SrtO.lexB_no.mp h2
  obtain ⟨x1, x2⟩ := x
  obtain ⟨y1, y2⟩ := y
  simp only at a b
  have e1 : x1 = y1 := by omega
  have e2 : x2 = y2 := by omega
  rw [e1, e2]
theorem srt_uniq : ∀ {l m : List (Int × Int)}, l.Perm m → l.Pairwise (fun x y => SrtO.lexB y x = false) → m.Pairwise (fun x y => SrtO.lexB y x = false) → l = m
  | [], m, h, _, _ => by rw [List.nil_perm.mp h]
  | x :: l, [], h, _, _ => (List.perm_nil.mp h)
  | x :: l, y :: m, h, h1, h2 => by
    have a := List.pairwise_cons.mp h1
    have b := List.pairwise_cons.mp h2
    have e : x = y := by
      rcases List.mem_cons.mp (h.mem_iff.mp List.mem_cons_self) with e | hx
      · exact e
      · rcases List.mem_cons.mp (h.mem_iff.mpr List.mem_cons_self) with e | hy
        · exact e.symm
        · exact lex_anti (b.1 x hx) (a.1 y hy)
    subst e
    rw [srt_uniq h.cons_inv a.2 b.2]
theorem reps_pairs {K Hc m} : ∀ {ps : List (Int × Int)} {vs : List V}, Reps K Hc m (ps.map pairD) vs → ∃ as : List Addr, vs = as.map V.ref ∧ as.length = ps.length ∧ ∀ (i : Nat) (a : Addr) (p : Int × Int), as[i]? = some a → ps[i]? = some p → Hc a = some (.tup [.int p.1, .int p.2])
  | [], _, h => by cases h; exact ⟨[], rfl, rfl, fun i a p h => by simp at h⟩
  | p :: ps, _, ⟨v, r, e, ⟨a, us, e1, h1, u, us', e2, h2, u2, us2, e3, h3, h4⟩, h5⟩ => by
    obtain ⟨as, g1, g2, g3⟩ := reps_pairs h5
    cases h2; cases h3; cases h4
    subst e e1 e2 e3
    refine ⟨a :: as, by rw [g1]; rfl, by simp [g2], fun i b q hb hq => ?_⟩
    cases i with
    | zero => simp at hb hq; subst hb; subst hq; exact h1
    | succ i => exact g3 i b q (by simpa using hb) (by simpa using hq)
theorem reps_of_pairs {K Hc m} : ∀ {ys : List V} {k : V → Int × Int}, (∀ y ∈ ys, ∃ t, y = V.ref t ∧ Hc t = some (.tup [.int (k y).1, .int (k y).2])) → Reps K Hc m ((ys.map k).map pairD) ys
  | [], _, _ => rfl
  | y :: ys, k, h => by
    obtain ⟨t, e, h1⟩ := h y List.mem_cons_self
    exact ⟨y, ys, rfl, ⟨t, _, e, h1, _, _, rfl, rfl, _, _, rfl, rfl, rfl⟩, reps_of_pairs fun z hz => h z (List.mem_cons_of_mem _ hz)⟩
theorem cs_sortedP {K mg} : CS K mg (rSortedPO K) dSorted := by
  intro fr m Hc S H xs ds w Q z r p
  unfold dSorted at p
  split at p
  · rename_i d
    obtain ⟨v, rfl, r1⟩ := r.one_of
    cases e : seqOf d S with
    | none => simp [e] at p; exact p.elim
    | some es =>
      simp only [e] at p
      cases e2 : pairsOf es with
      | none => simp [e2] at p; exact p.elim
      | some ps =>
        simp only [e2] at p
        obtain ⟨a, vs, rfl, q, rr⟩ := z.seq r1 e
        rw [pairsOf_some e2] at rr
        obtain ⟨as, rfl, hl, hh⟩ := reps_pairs rr
        -- which pair stands at an address
        let k : V → Int × Int := fun v => match v with
          | .ref t => match H t with
            | some (.tup [.int i, .int j]) => (i, j)
            | _ => (0, 0)
          | _ => (0, 0)
        have kk : ∀ (i : Nat) (a : Addr) (p : Int × Int), as[i]? = some a → ps[i]? = some p → k (.ref a) = p := fun i a p h1 h2 => by
          have := z.sub _ _ (hh i a p h1 h2)
          show (match H a with
            | some (.tup [.int i, .int j]) => (i, j)
            | _ => (0, 0)) = p
          rw [this]
        have hmap : (as.map V.ref).map k = ps := by
          apply List.ext_getElem?
          intro i
          repeat rw [List.getElem?_map]
          cases h1 : as[i]? with
          | none =>
            have : ps[i]? = none := by rw [List.getElem?_eq_none_iff] at h1 ⊢; omega
            rw [this]; rfl
          | some a =>
            have hi : i < ps.length := by rw [← hl]; exact (List.getElem?_eq_some_iff.mp h1).1
            have h2 : ps[i]? = some ps[i] := List.getElem?_eq_getElem hi
            rw [h2]
            show some (k (.ref a)) = _
            rw [kk i a _ h1 h2]
        have hx : ∀ x ∈ as.map V.ref, ∃ t, x = V.ref t ∧ Hc t = some (.tup [.int (k x).1, .int (k x).2]) := fun x hx => by
          obtain ⟨a, ha, rfl⟩ := List.mem_map.mp hx
          obtain ⟨i, hi⟩ := List.getElem?_of_mem ha
          have hi2 : i < ps.length := by rw [← hl]; exact (List.getElem?_eq_some_iff.mp hi).1
          have h2 : ps[i]? = some ps[i] := List.getElem?_eq_getElem hi2
          refine ⟨a, rfl, ?_⟩
          rw [kk i a _ hi h2]
          exact hh i a _ hi h2
        refine ⟨a, as.map V.ref, k, rfl, q, fun x hx' => ?_, fun ys pp hs hst hp => p.useN z hp ?_⟩
        · obtain ⟨t, e, h⟩ := hx x hx'
          exact ⟨t, e, z.sub _ _ h⟩
        · have hperm : (ys.map k).Perm ps := by rw [← hmap]; exact hst.perm.map k
          have hsrt : (ys.map k).Pairwise (fun x y => SrtO.lexB y x = false) := List.pairwise_map.mpr (List.Pairwise.imp (fun h => h) hs)
          have heq : ys.map k = sortP ps := srt_uniq (hperm.trans (sortP_perm ps).symm) hsrt (sortP_srt ps)
          rw [← heq]
          have hm : ∀ y ∈ ys, ∃ t, y = V.ref t ∧ Hc t = some (.tup [.int (k y).1, .int (k y).2]) := fun y hy => hx y (hst.perm.mem_iff.mp hy)
          exact ⟨pp, ys, rfl, upd_same, Reps.mono (z.new hp).2 _ _ (reps_of_pairs hm)⟩
  · exact p.elim

/-! ### ranges as values -/
def dRange1 (xs : List D) (S : Sto) : Rs D := match xs with
  | [.int j] => .ok (.rng 0 j) S
  | _ => .stk
end Z

namespace Z
open PySem L2
open PySem.Spec PyProof.Rows
variable [Tabs]

/-! ### calls with keywords -/
def permL {α : Type} (pm : List Nat) (l : List α) : List α := pm.filterMap fun i => l[i]?
theorem permL_vals (pm : List Nat) {vs : List V} {us : List Value} (r : Vals vs us) : Vals (permL pm vs) (permL pm us) := by
  unfold permL
  induction pm with
  | nil => exact .nil
  | cons i pm ih =>
    cases h : vs[i]? with
    | none =>
      rw [List.filterMap_cons_none h, List.filterMap_cons_none (r.none_of h)]
      exact ih
    | some v =>
      obtain ⟨u, h1, h2⟩ := r.get h
      rw [List.filterMap_cons_some h, List.filterMap_cons_some h1]
      exact .cons h2 ih
theorem permL_reps {K Hc m} (pm : List Nat) {ds : List D} {vs : List V} (r : Reps K Hc m ds vs) : Reps K Hc m (permL pm ds) (permL pm vs) := by
  unfold permL
  induction pm with
  | nil => rfl
  | cons i pm ih =>
    by_cases hi : i < ds.length
    · have h : ds[i]? = some ds[i] := List.getElem?_eq_getElem hi
      obtain ⟨v, h1, h2⟩ := r.get h
      rw [List.filterMap_cons_some h, List.filterMap_cons_some h1]
      exact ⟨v, _, rfl, h2, ih⟩
    · rw [List.filterMap_cons_none (List.getElem?_eq_none (by omega)), List.filterMap_cons_none (List.getElem?_eq_none (by rw [r.length]; omega))]
      exact ih
structure ZK [Hot] (X : Cx) (W : WX) (kws : List Keyword) (t : TA) (f : EM (List D)) : Prop where
  pk : PK X kws t
  sd : SA X.K X.mg W t f
  ar : Arity f kws.length
def tCallKZ (n l : Nat) (pm : List Nat) (sp : Sp) (E : L2.St → XK) (t tk : TA) : TE := fun σ H Q => t σ H fun vs H1 => tk σ H1 fun zs H2 => vs.length = n ∧ zs.length = l ∧ sp (permL pm (vs ++ zs)) H2 Q (E σ)
def zCallK (n : Nat) (F : List D → Sto → Rs D) (pm : List Nat) (a k : EM (List D)) : EM D := fun env S => (a env S).bnd fun xs S1 => (k env S1).bnd fun zs S2 => if (permL pm (xs ++ zs)).length = n then F (permL pm (xs ++ zs)) S2 else .stk
section
variable {X : Cx} {W : WX} {pos p kpos : Pos} {x : Str} {nm : Option Str} {e : Expr} {es : List Expr} {kws : List Keyword} {te : TE} {fe : EM D} {t tkk : TA} {f fk : EM (List D)}
theorem zk_nil [Hot] : ZK X W [] tNil zNil := ⟨pk_nil, fun fr m Hc env S σ H Q z zz p => p.use z rfl, ar_nil⟩
theorem zk_cons [Hot] (he : ZE X W e te fe) (hs : ZK X W kws t f) : ZK X W (⟨nm, e, kpos⟩ :: kws) (tCons te t) (zCons fe f) := by
  refine ⟨pk_cons he.pe hs.pk, ?_, ar_cons hs.ar⟩
  intro fr m Hc env S σ H Q z zz p
  refine he.sd fr m Hc env S σ H _ z zz (p.bnd fun x S1 v m1 Hc1 H1 x1 z1 r1 p1 => ?_)
  refine hs.sd fr m1 Hc1 env S1 σ H1 _ z1 (Ze.mono x1 zz) (p1.bnd fun xs S2 vs m2 Hc2 H2 x2 z2 r2 p2 => ?_)
  exact p2.use z2 ⟨v, vs, rfl, Rep.mono x2 _ _ r1, r2⟩
theorem run_fnKZ {pins : List (Addr × Obj)} {σ : L2.St} {H : Hp} {s : Shared} {Q : VK} {us ws : List Value} {vs zs : List V} {k n : Nat} {pm : List Nat} {ps ks : List Str} {fa : Addr} {fd : FuncData} {sp : Sp} {E : L2.St → XK} (F : FnOk X.prog X.w X.K X.mg X.base (L2.CX X.prog X.w) k fa fd ps sp) (hr : Room k X.A)
    (hto : ∀ (s : Shared) (us ws : List Value), us.length = n → ws.length = ks.length → BindsTo s fd ⟨us, ks.zip ws⟩ (ps.zip (permL pm (us ++ ws)))) (hx : PassesAt (L2.CX X.prog X.w) X σ (E σ))
    (I : Inv X pins σ H s) (r : Vals vs us) (rz : Vals zs ws) (l1 : vs.length = n) (l2 : zs.length = ks.length) (h : sp (permL pm (vs ++ zs)) H Q (E σ)) : wpAny (model X.prog X.w) X.A (call (.ref fa) us (ks.zip ws)) (EP X pins σ Q) X.xe s := by
  have r2 : Vals (permL pm (vs ++ zs)) (permL pm (us ++ ws)) := permL_vals pm (r.append rz)
  refine wpAny_call (codeAny_mono (F.run X.A X.stack s H ⟨us, ks.zip ws⟩ _ _ Q (E σ) hr I.env0 (hto s us ws (r.length.symm.trans l1) (rz.length.symm.trans l2)) r2 h) fun r s' hq => ?_)
  cases r with
  | error er => exact hx pins H s er s' I hq
  | ok fl =>
    cases fl with
    | ret u => exact I.after hq
    | next => exact False.elim hq
    | brk => exact False.elim hq
    | cont => exact False.elim hq
theorem pe_callKZ0 {k : Nat} {pm : List Nat} {ps ks : List Str} {fa : Addr} {fd : FuncData} {sp : Sp} {E : L2.St → XK} (F : FnOk X.prog X.w X.K X.mg X.base (L2.CX X.prog X.w) k fa fd ps sp) (hr : Room k X.A) (hg : Gl X x) (hm : X.mg x = some (.ref fa)) (hk : PySem.W.keepIn X.K (.ref fa) = true)
    (hto : ∀ (s : Shared) (us ws : List Value), us.length = 0 → ws.length = ks.length → BindsTo s fd ⟨us, ks.zip ws⟩ (ps.zip (permL pm (us ++ ws)))) (hx : ∀ σ, PassesAt (L2.CX X.prog X.w) X σ (E σ))
    (hkw : PK X kws tkk) (hall : (backToKw pos (keywordEach kws X.env)).all (·.1.isSome) = true) (hks : (backToKw pos (keywordEach kws X.env)).filterMap (·.1) = ks)
    (hdb : (x == ("__debug__" : Str)) = false) (hpl : ((backTo pos (starEach [] X.env)).any (·.1) || (backToKw pos (keywordEach kws X.env)).any (·.1.isNone)) = false) :
    PE X (.Call (.Name x p) [] kws pos) (tCallKZ 0 ks.length pm sp E tNil tkk) := by
  refine ⟨fun ps s σ H Q inv d => wpAny_Call_Name_kw (ld_glob inv hg hm ?_ hdb)⟩
  refine PySem.W.callWith_KW0 (h₀ := X.base) inv.ok.mod.kin hk hall (thn (hkw.run pos ps s σ H _ inv d) fun ws s2 ⟨zs, H2, I2, rz, l1, l2, q2⟩ => ⟨I2.kIn, ?_⟩) hpl
  exact hks ▸ run_fnKZ (us := []) (vs := []) F hr hto (hx σ) I2 .nil rz rfl l2 q2
theorem fun_to {K : PySem.W.Frag} {x : Str} {st : Stmt} {ps : List Str} {fa : Addr} {fd : FuncData} (n : Nat) (ks : List Str) (pm : List Nat) (hF : Fun K x x st fa fd)
    (hb : ∀ (kV doc pmv : Value) (an : Option Addr) (cdv ct : Value) (us ws : List Value), us.length = n → ws.length = ks.length → bindArgs (PySem.W.fnOf x x (defArgs st) (defBody st) (defScope st) .none kV doc pmv an cdv ct) ⟨us, ks.zip ws⟩ = pure (ps.zip (permL pm (us ++ ws)))) :
    ∀ (s : Shared) (us ws : List Value), us.length = n → ws.length = ks.length → BindsTo s fd ⟨us, ks.zip ws⟩ (ps.zip (permL pm (us ++ ws))) := by
  obtain ⟨oc, od, kV, doc, pmv, an, cdv, ct, osl, rfl, lk, hcd⟩ := hF.ex
  exact fun s us ws h1 h2 => .of_eq (hb kV doc pmv an cdv ct us ws h1 h2)
theorem ze_callK0 [Hot] {pm : List Nat} {ks : List Str} {k : Nat} {st : Stmt} {ps : List Str} {F : List D → Sto → Rs D} (h : FZ X.prog X.w X.K X.mg X.base k x st ps F) (hr : Room k X.A) (hg : Gl X x) (tk : Takes X W)
    (hb : ∀ (kV doc pmv : Value) (an : Option Addr) (cdv ct : Value) (us ws : List Value), us.length = 0 → ws.length = ks.length → bindArgs (PySem.W.fnOf x x (defArgs st) (defBody st) (defScope st) .none kV doc pmv an cdv ct) ⟨us, ks.zip ws⟩ = pure (ps.zip (permL pm (us ++ ws))))
    (hkw : ZK X W kws tkk fk) (hkl : kws.length = ks.length := by rfl)
    (hall : (backToKw pos (keywordEach kws X.env)).all (·.1.isSome) = true := by rfl) (hks : (backToKw pos (keywordEach kws X.env)).filterMap (·.1) = ks := by rfl)
    (hdb : (x == ("__debug__" : Str)) = false := by decide) (hpl : ((backTo pos (starEach [] X.env)).any (·.1) || (backToKw pos (keywordEach kws X.env)).any (·.1.isNone)) = false := by rfl) :
    ZE X W (.Call (.Name x p) [] kws pos) (tCallKZ 0 ks.length pm (zSp X.K X.mg ps.length F) (WE W) tNil tkk) (zCallK ps.length F pm zNil fk) := by
  obtain ⟨fa, fd, gm, hF, _, ok⟩ := h.ex
  refine ⟨pe_callKZ0 ok hr hg gm hF.kp (fun_to 0 ks pm hF hb) (fun σ => passAt tk σ) hkw.pk hall hks hdb hpl, ?_⟩
  intro fr m Hc env S σ H Q z zz p
  show tCallKZ 0 ks.length pm (zSp X.K X.mg ps.length F) (WE W) tNil tkk σ H Q
  have p : Pst X.K X.mg fr (fun Hc m d v => Rep X.K Hc m d v) m Hc (fun c o H => W c o σ H) Q ((fk env S).bnd fun zs S2 => if (permL pm ([] ++ zs)).length = ps.length then F (permL pm ([] ++ zs)) S2 else .stk) := p
  refine hkw.sd fr m Hc env S σ H _ z zz (p.bndE fun zs S2 ws m2 Hc2 H2 e2 x2 z2 r2 p2 => ?_)
  refine ⟨rfl, by rw [r2.length, ← hkl]; exact hkw.ar _ _ _ _ e2, ?_⟩
  have rr := permL_reps pm r2
  rw [List.nil_append] at p2
  by_cases hl : (permL pm zs).length = ps.length
  · rw [if_pos hl] at p2
    exact ⟨by rw [List.nil_append, rr.length]; exact hl, fr, m2, Hc2, S2, _, z2, rr, p2⟩
  · rw [if_neg hl] at p2; exact p2.elim
end
theorem ze_const [Hot] {X : Cx} {W : WX} {pos : Pos} {x : Str} {i : Int} (hg : Gl X x) (hm : ∃ t, X.mg x = some (.int i t)) (hd : (x == ("__debug__" : Str)) = false := by decide) : ZE X W (.Name x pos) (tC (.int i)) (zC (.int i)) := by
  obtain ⟨t, h⟩ := hm
  exact zc_of (pe_glob hg h ⟨t, rfl⟩ hd) fun _ _ => rfl
/-! ### the built-in names that no def of the program has -/
structure Bi (mg : Mg) : Prop where
  len : mg "len" = none
  range : mg "range" = none
  enumerate : mg "enumerate" = none
  abs : mg "abs" = none
  int : mg "int" = none
  bool : mg "bool" = none
  tuple : mg "tuple" = none
  list : mg "list" = none
  str : mg "str" = none
  dict : mg "dict" = none
  isinstance : mg "isinstance" = none
  sorted : mg "sorted" = none
  min : mg "min" = none
  max : mg "max" = none
  reversed : mg "reversed" = none
  any : mg "any" = none
  all : mg "all" = none
  sum : mg "sum" = none
  zip : mg "zip" = none
theorem FZ.mono {P w K mg base} {j k : Nat} {x : Str} {st : Stmt} {ps : List Str} {F : List D → Sto → Rs D} (h : FZ P w K mg base j x st ps F) (hl : j ≤ k) : FZ P w K mg base k x st ps F := by
  obtain ⟨fa, fd, gm, hF, hb, ok⟩ := h.ex
  exact ⟨fa, fd, gm, hF, hb, ok.mono hl⟩
theorem cs_sorted {K mg} : CS K mg (rSortedPO K) dSorted := cs_sortedP
end Z

namespace Z
open PySem L2
open PySem.Spec PyProof.Rows
variable [Tabs]
/-! the same rules with the written part told by its name (in a comprehension's block) -/
section
variable {X : Cx} {K : PySem.W.Frag} {mg : Mg} {W : WX} {pos p p1 p2 tpos apos cpos kpos : Pos} {tg a b e o i : Expr} {es elts : List Expr} {kk tk : Nat} {lo hi : Option Expr} {ta tb te to ti : TE} {fa fb fe fo fi : EM D} {t tkk : TA} {f fk : EM (List D)} {tl th : TO} {fl fh : EO} {x y name : Str} {id T U : String}
theorem kze_ix [Hot] (hK : X.K = K) (ha : ZE X W a ta fa) (hb : ZE X W b tb fb) (hs : PlainIx b := by exact fun _ _ => rfl) : ZE X W (.Subscript a b pos) (tOp (rIx K) ta tb) (zOp dIx fa fb) := by subst hK; exact ze_ix ha hb hs
theorem kzo_add [Hot] (hK : X.K = K) : ZO X (binaryOp .Add) (rAddZ K) dAdd := by subst hK; exact zo_add
theorem kzo_eq [Hot] {k : Nat} (hK : X.K = K) (hr : Room k X.A) : ZO X (compareOp .Eq) (rEqZ K) dEq := by subst hK; exact zo_eq hr
theorem kzo_ne [Hot] {k : Nat} (hK : X.K = K) (hr : Room k X.A) : ZO X (compareOp .NotEq) (rNeZ K) dNe := by subst hK; exact zo_ne hr
def tTruK (K : PySem.W.Frag) (ta : TE) : TT := fun σ H Q => ta σ H fun x H' => ∃ k, TruV K x H' k ∧ Q k H'
theorem kzt_tru [Hot] (hK : X.K = K) (ha : ZE X W a ta fa) (he : ∀ whole, isTrue a X.env whole = (do let v ← whole; standAt a.pos; holding [v] (truthy v)) := by intro _; rfl) : ZT X W a (tTruK K ta) (zTru fa) := by subst hK; exact zt_tru ha he
theorem kze_sl [Hot] (hK : X.K = K) (he : ZE X W e te fe) (hl : ZP X W lo tl fl) (hu : ZP X W hi th fh) : ZE X W (.Subscript e (.Slice lo hi none p2) pos) (tSl (rSlZ K) te tl th) (zSl fe fl fh) := by subst hK; exact ze_sl he hl hu
theorem kcall_len [Hot] (hK : X.K = K) : CallR X (.builtin "len") (rLenZ K) := by subst hK; exact call_len
def rTupOf (K : PySem.W.Frag) : List V → Hp → VK → Prop := fun xs H Q => ∃ p ys, xs = [.ref p] ∧ ((SqL K H p ys ∧ ∀ l, H l = none → Q (.ref l) (upd H l (.tup ys))) ∨ (SqT K H p ys ∧ Q (.ref p) H))
theorem kcall_tuple [Hot] (hK : X.K = K) : CallR X (.type "tuple") (rTupOf K) := by subst hK; exact call_tuple_of
theorem kcs_tuple [Hot] {K mg} : CS K mg (rTupOf K) dTuple := cs_tuple
theorem kcall_list [Hot] (hK : X.K = K) : CallR X (.type "list") (rListOf K) := by subst hK; exact call_list_of
theorem kcall_sorted [Hot] (hK : X.K = K) : CallR X (.builtin "sorted") (rSortedPO K) := by subst hK; exact cr_sortedPO
def iSrcK (K : PySem.W.Frag) (te : TE) : TI := fun σ H R => iList K te σ H R ∨ (iTup K te σ H R ∨ iRng te σ H R)
theorem kzi_src (hK : X.K = K) (he : ZE X W e te fe) : ZI X W tg e (iSrcK K te) (zSrc fe) := by subst hK; exact zi_src he
theorem kzi_enum (hK : X.K = K) (hg : Gl X "enumerate") (hm : X.mg "enumerate" = none) (ha : ZA X W [e] t f) (hs : starEach [e] X.env = [(false, eval e X.env)] := by rfl) : ZI X W (.Tuple elts kk tpos) (.Call (.Name "enumerate" p) [e] [] pos) (iEnum K t) (zEnum f) := by subst hK; exact zi_enum hg hm ha hs
theorem kze_isi [Hot] (hK : X.K = K) (hg : Gl X "isinstance") (hm : X.mg "isinstance" = none) (hmT : X.mg x = none) (hvT : bootBuiltins x = some (.type T)) (ha : ZE X W a ta fa) (hgT : Gl X x := by rfl) (hT : T ∈ clNames := by decide) (hnT : x ≠ "__name__" := by decide) (hdT : (x == ("__debug__" : Str)) = false := by decide)
    (he : starEach [a, .Name x p1] X.env = (false, eval a X.env) :: starEach [.Name x p1] X.env := by rfl) (he2 : starEach [.Name x p1] X.env = (false, eval (.Name x p1) X.env) :: starEach [] X.env := by rfl) (hpl : (backTo pos (starEach [.Name x p1] X.env)).any (·.1) = false := by rfl) :
    ZE X W (.Call (.Name "isinstance" p) [a, .Name x p1] [] pos) (tCB (rIsi K) (tCons ta (tCons (tC (.ty T)) tNil))) (zIsi [T] fa) := by subst hK; exact ze_isi hg hm hmT hvT ha hgT hT hnT hdT he he2 hpl
theorem kze_methL [Hot] {r : V → List V → Hp → VK → Prop} {op : D → List D → Sto → Rs D} (hK : X.K = K) (slot : Slot "list" name id) (hty : typeOf (.builtin id) = pure (.type "method_descriptor")) (hm : MtR X id r) (hs : MS X.K X.mg r op) (ho : ZE X W o to fo) (ha : ZA X W (e :: es) t f)
    (hbase : attributeBase o name X.env (eval o X.env) = eval o X.env := by rfl) (hfew : ((backTo cpos (starEach (e :: es) X.env)).all (fun x => !x.1) && (backToKw cpos (keywordEach [] X.env)).all (fun x => x.1.isSome) &&
      decide ((e :: es).length + ([] : List Keyword).length + (if ([] : List Keyword).isEmpty then 0 else 1) < 30)) = true := by rfl) (hline : (apos.endLine == cpos.line) = true := by rfl) (hst : starEach (e :: es) X.env = (false, eval e X.env) :: starEach es X.env := by rfl) (hplain : (backTo cpos (starEach es X.env)).any (·.1) = false := by rfl) :
    ZE X W (.Call (.Attribute o name apos) (e :: es) [] cpos) (tBM K "list" r to t) (zMethL op fo f) := by subst hK; exact ze_methL slot hty hm hs ho ha hbase hfew hline hst hplain
theorem kze_call [Hot] {st : Stmt} {ps : List Str} {k : Nat} {F : List D → Sto → Rs D} {n : Nat} (hn : ps.length = n) (hK : X.K = K) (hM : X.mg = mg) (h : FZ X.prog X.w X.K X.mg X.base k x st ps F) (hr : Room k X.A) (hg : Gl X x) (tk : Takes X W) (ha : ZA X W (e :: es) t f) (hdb : (x == ("__debug__" : Str)) = false := by decide) (he : starEach (e :: es) X.env = (false, eval e X.env) :: starEach es X.env := by rfl)
    (hpl : (backTo pos (starEach es X.env)).any (·.1) = false := by rfl) :
    ZE X W (.Call (.Name x p) (e :: es) [] pos) (tCallS (zSp K mg n F) (WE W) t) (zCallF n F f) := by subst hK hM hn; exact ze_call h hr hg tk ha hdb he hpl
theorem kze_callK0 [Hot] {kws : List Keyword} {pm : List Nat} {ks : List Str} {k : Nat} {st : Stmt} {ps : List Str} {F : List D → Sto → Rs D} {n : Nat} (hn : ps.length = n) (hK : X.K = K) (hM : X.mg = mg) (h : FZ X.prog X.w X.K X.mg X.base k x st ps F) (hr : Room k X.A) (hg : Gl X x) (tk : Takes X W)
    (hb : ∀ (kV doc pmv : Value) (an : Option Addr) (cdv ct : Value) (us ws : List Value), us.length = 0 → ws.length = ks.length → bindArgs (PySem.W.fnOf x x (defArgs st) (defBody st) (defScope st) .none kV doc pmv an cdv ct) ⟨us, ks.zip ws⟩ = pure (ps.zip (permL pm (us ++ ws))))
    (hkw : ZK X W kws tkk fk) (hkl : kws.length = ks.length := by rfl)
    (hall : (backToKw pos (keywordEach kws X.env)).all (·.1.isSome) = true := by rfl) (hks : (backToKw pos (keywordEach kws X.env)).filterMap (·.1) = ks := by rfl)
    (hdb : (x == ("__debug__" : Str)) = false := by decide) (hpl : ((backTo pos (starEach [] X.env)).any (·.1) || (backToKw pos (keywordEach kws X.env)).any (·.1.isNone)) = false := by rfl) :
    ZE X W (.Call (.Name x p) [] kws pos) (tCallKZ 0 ks.length pm (zSp K mg n F) (WE W) tNil tkk) (zCallK n F pm zNil fk) := by subst hK hM hn; exact ze_callK0 h hr hg tk hb hkw hkl hall hks hdb hpl
end
end Z

namespace Z
open PySem L2
open PySem.Spec PyProof.Rows
variable [Tabs]

/-! ### what a def is worth, by its run -/
def Shut (S0 : Sto) (d' : D) (S2 : Sto) : Prop := S0.length ≤ S2.length ∧ D.cl S0.length d' ∧ ∀ n c, n < S0.length → S2[n]? = some c → S0[n]? = some c ∨ C.cl S0.length c
def ShutX (S0 : Sto) (e : XV) (S1 : Sto) : Prop := S0.length ≤ S1.length ∧ (∀ fs, e.fs = some fs → ∀ p ∈ fs, D.cl S0.length p.2) ∧ ∀ n c, n < S0.length → S1[n]? = some c → S0[n]? = some c ∨ C.cl S0.length c
open Classical in
noncomputable def fin0 (fu : Nat) (S0 : Sto) (d : D) (S1 : Sto) : Rs D := match frz fu d S1 with
  | some (d', S2) => if Shut S0 d' S2 then .ok d' (S2.take S0.length) else .ok d' S2
  | none => .stk
open Classical in
noncomputable def finR (fu : Nat) (S0 : Sto) : Ss → Rs D
  | .mk (.ret d) S1 => fin0 fu S0 d S1
  | .mk (.next _) S1 => fin0 fu S0 .non S1
  | .mk (.exc e _) S1 => if ShutX S0 e S1 then .exc e (S1.take S0.length) else .stk
  | _ => .stk
noncomputable def Fof (fu : Nat) (N : List Str) (run : SM) (ds : List D) (S0 : Sto) : Rs D := finR fu S0 (run (startE N ds) S0)
theorem fin0_ok {fu : Nat} {S0 S1 S' : Sto} {d d' : D} (h : fin0 fu S0 d S1 = .ok d' S') : Fin fu S0 d S1 d' S' := by
  unfold fin0 at h
  split at h
  · rename_i e' S2 e
    split at h
    · rename_i c
      cases h
      exact ⟨_, e, .inr ⟨rfl, c.1, c.2.1, c.2.2⟩⟩
    · cases h
      exact ⟨_, e, .inl rfl⟩
  · cases h
theorem fin0_nx {fu : Nat} {S0 S1 S' : Sto} {d : D} {e : XV} (h : fin0 fu S0 d S1 = .exc e S') : False := by
  unfold fin0 at h
  split at h
  · split at h <;> cases h
  · cases h
open Classical in
theorem finX_eq {fu : Nat} {S0 S1 : Sto} {e : XV} {env : En} : finR fu S0 (.mk (.exc e env) S1) = if ShutX S0 e S1 then .exc e (S1.take S0.length) else .stk := by
  unfold finR; rfl
theorem impl_of {fu : Nat} {N : List Str} {run : SM} (ds : List D) (S0 : Sto) : Impl fu S0 (run (startE N ds) S0) (Fof fu N run ds S0) := by
  unfold Fof
  generalize run (startE N ds) S0 = r
  cases h : finR fu S0 r with
  | stk => trivial
  | ok d' S' =>
    cases r with
    | stk => cases h
    | mk fl S1 =>
      cases fl with
      | ret d => exact .inl ⟨d, S1, rfl, fin0_ok h⟩
      | next env => exact .inr ⟨env, S1, rfl, fin0_ok h⟩
      | brk _ => cases h
      | cnt _ => cases h
      | exc e env =>
        rw [finX_eq] at h
        by_cases c : ShutX S0 e S1
        · rw [if_pos c] at h; cases h
        · rw [if_neg c] at h; cases h
  | exc e S' =>
    cases r with
    | stk => cases h
    | mk fl S1 =>
      cases fl with
      | ret d => exact (fin0_nx h).elim
      | next env => exact (fin0_nx h).elim
      | brk _ => cases h
      | cnt _ => cases h
      | exc e' env =>
        rw [finX_eq] at h
        by_cases c : ShutX S0 e' S1
        · rw [if_pos c] at h
          cases h
          exact ⟨env, S1, rfl, rfl, c.1, c.2.1, c.2.2⟩
        · rw [if_neg c] at h; cases h
/-! ways to a def's worth -/
theorem shut_app {S0 L : Sto} {d : D} (h : D.cl S0.length d) : Shut S0 d (S0 ++ L) := by
  refine ⟨by simp, h, fun n c hn e => .inl ?_⟩
  rw [List.getElem?_append_left hn] at e
  exact e
theorem shut_self {S0 : Sto} {d : D} (h : D.cl S0.length d) : Shut S0 d S0 := ⟨Nat.le_refl _, h, fun _ _ _ e => .inl e⟩
/-- a def that leaves the store as it is: its cells L may be there behind it -/
theorem Fof_pure {fu : Nat} {N : List Str} {run : SM} {ds : List D} {S0 L : Sto} {d d' : D} (h : run (startE N ds) S0 = .mk (.ret d) (S0 ++ L)) {L' : Sto} (hf : frz fu d (S0 ++ L) = some (d', S0 ++ L')) (hc : D.cl S0.length d') : Fof fu N run ds S0 = .ok d' S0 := by
  unfold Fof
  rw [h]
  show fin0 _ _ _ _ = _
  unfold fin0
  rw [hf]
  simp only []
  rw [if_pos (shut_app hc), List.take_left']
  rfl
theorem Fof_ret0 {N : List Str} {run : SM} {ds : List D} {S0 : Sto} {d : D} (h : run (startE N ds) S0 = .mk (.ret d) S0) (hc : D.cl S0.length d) : Fof 0 N run ds S0 = .ok d S0 := by
  unfold Fof
  rw [h]
  show fin0 _ _ _ _ = _
  unfold fin0 frz
  simp only []
  rw [if_pos (shut_self hc), List.take_length]
/-! ### a def that never comes to its end here: for the bottom of a recursion -/
theorem fz_stk {P w K mg base} {x : Str} {st : Stmt} {f : Addr} {fd : FuncData} {ps : List Str} (gm : mg x = some (.ref f)) (hF : Fun K x x st f fd) (hb : Binds K fd ps []) : FZ P w K mg base 0 x st ps (fun _ _ => .stk) :=
  ⟨f, fd, gm, hF, hb, fun _ _ _ _ h => h.1, fun A outer s H args us vs Q E hr he hbb hv hs => by
    obtain ⟨_, fr, m, Hc, S, ds, _, _, p⟩ := hs
    exact p.elim⟩

end Z

namespace Z
open PySem L2
open PySem.Spec PyProof.Rows
variable [Tabs]

/-! ### any, all, sum of a list -/
def boolsOf : List D → Option (List Bool)
  | [] => some []
  | .bl b :: r => (boolsOf r).map fun bs => b :: bs
  | _ :: _ => none
theorem Reps.bools {K Hc m} : ∀ {ds : List D} {vs : List V} {bs : List Bool}, Reps K Hc m ds vs → boolsOf ds = some bs → vs = bs.map V.bl
  | [], _, _, r, e => by cases r; cases e; rfl
  | .bl b :: ds, _, _, ⟨v, r, e1, h1, h2⟩, e => by
    subst e1
    unfold boolsOf at e
    cases h : boolsOf ds with
    | none => rw [h] at e; cases e
    | some bs =>
      rw [h] at e
      cases e
      cases h1
      rw [List.map_cons, Reps.bools h2 h]
  | .non :: _, _, _, _, e => by cases e
  | .int _ :: _, _, _, _, e => by cases e
  | .str _ :: _, _, _, _, e => by cases e
  | .tup _ :: _, _, _, _, e => by cases e
  | .lst _ :: _, _, _, _, e => by cases e
  | .ptr _ :: _, _, _, _, e => by cases e
  | .rol _ :: _, _, _, _, e => by cases e
  | .rng _ _ :: _, _, _, _, e => by cases e
  | .ty _ :: _, _, _, _, e => by cases e
  | .rot _ :: _, _, _, _, e => by cases e
  | .dct _ _ :: _, _, _, _, e => by cases e
def intsOf : List D → Option (List Int)
  | [] => some []
  | .int b :: r => (intsOf r).map fun bs => b :: bs
  | _ :: _ => none
theorem intsOf_some : ∀ {ds : List D} {ns : List Int}, intsOf ds = some ns → ds = ns.map D.int
  | [], _, e => by cases e; rfl
  | d :: ds, ns, e => by
    cases d <;> first | (cases e; done) | skip
    unfold intsOf at e
    cases h : intsOf ds with
    | none => rw [h] at e; cases e
    | some bs => rw [h] at e; cases e; rw [List.map_cons, ← intsOf_some h]
def dSum (xs : List D) (S : Sto) : Rs D := match xs with
  | [d] => match (seqOf d S).bind intsOf with
    | some ns => .ok (.int ns.sum) S
    | none => .stk
  | _ => .stk
theorem cs_sum {K mg} : CS K mg (rSum K) dSum := by
  intro fr m Hc S H xs ds w Q z r p
  unfold dSum at p
  split at p
  · rename_i d
    obtain ⟨v, rfl, r1⟩ := r.one_of
    cases e : seqOf d S with
    | none => simp [e] at p; exact p.elim
    | some es =>
      cases e2 : intsOf es with
      | none => simp [e, e2] at p; exact p.elim
      | some ns =>
        simp only [e, e2, Option.bind_some] at p
        obtain ⟨a, vs, rfl, q, rr⟩ := z.seq r1 e
        rw [intsOf_some e2] at rr
        have := rr.ints
        subst this
        exact ⟨a, ns, rfl, q, p.use z rfl⟩
  · exact p.elim

section
variable {X : Cx} {K : PySem.W.Frag}
theorem kcall_sum (hK : X.K = K) (hc : X.calm = true) : CallR X (.builtin "sum") (rSum K) := by subst hK; exact cr_sum hc
end
end Z

namespace Z
open PySem L2
open PySem.Spec PyProof.Rows
variable [Tabs]

/-! ### operations at ints, for simp -/
section
variable (i j : Int) (S : Sto)
@[simp] theorem ev_sub : dSub (.int i) (.int j) S = .ok (.int (i - j)) S := rfl
@[simp] theorem ev_and : dAnd (.int i) (.int j) S = .ok (.int (Builtin.bitAnd i j)) S := rfl
@[simp] theorem ev_or : dOr (.int i) (.int j) S = .ok (.int (Builtin.bitOr i j)) S := rfl
@[simp] theorem ev_xor : dXor (.int i) (.int j) S = .ok (.int (Builtin.bitXor i j)) S := rfl
@[simp] theorem ev_lt : dLt (.int i) (.int j) S = .ok (.bl (decide (i < j))) S := rfl
@[simp] theorem ev_le : dLe (.int i) (.int j) S = .ok (.bl (decide (i ≤ j))) S := rfl
@[simp] theorem ev_gt : dGt (.int i) (.int j) S = .ok (.bl (decide (j < i))) S := rfl
@[simp] theorem ev_ge : dGe (.int i) (.int j) S = .ok (.bl (decide (j ≤ i))) S := rfl
@[simp] theorem ev_div : dDiv (.int i) (.int j) S = if 0 < j ∧ j < 1073741824 then .ok (.int (i / j)) S else .stk := rfl
@[simp] theorem ev_mod : dMod (.int i) (.int j) S = if 0 < j then .ok (.int (i % j)) S else .stk := rfl
@[simp] theorem ev_shl : dShl (.int i) (.int j) S = if 0 ≤ j ∧ j ≤ 1000000 ∧ i.natAbs < 2 ^ 64 then .ok (.int (i * 2 ^ j.toNat)) S else .stk := rfl
@[simp] theorem ev_shr : dShr (.int i) (.int j) S = if 0 ≤ j then .ok (.int (i / 2 ^ j.toNat)) S else .stk := rfl
@[simp] theorem ev_add : dAdd (.int i) (.int j) S = .ok (.int (i + j)) S := rfl
@[simp] theorem ev_mul : dMul (.int i) (.int j) S = if (-(2 ^ 64) < i ∧ i < 2 ^ 64) ∨ (-(2 ^ 64) < j ∧ j < 2 ^ 64) then .ok (.int (i * j)) S else .stk := rfl
@[simp] theorem ev_eq : dEq (.int i) (.int j) S = .ok (.bl (decide (i = j))) S := rfl
@[simp] theorem ev_neB (a b : Bool) : dNe (.bl a) (.bl b) S = .ok (.bl (!decide (a = b))) S := rfl
@[simp] theorem ev_eqB (a b : Bool) : dEq (.bl a) (.bl b) S = .ok (.bl (decide (a = b))) S := rfl
@[simp] theorem ev_ne : dNe (.int i) (.int j) S = .ok (.bl (!decide (i = j))) S := rfl
end

theorem frz_one {S : Sto} {ds : List D} : frz 1 (.ptr S.length) (S ++ [.lst ds]) = some (.lst ds, S ++ [.gone]) := by
  simp [frz, frzs]
mutual
theorem D.cl_mono {k k' : Nat} (h : k ≤ k') : ∀ d : D, D.cl k d → D.cl k' d
  | .tup ds, q => D.cls_mono h ds q
  | .lst ds, q => D.cls_mono h ds q
  | .rot ds, q => D.cls_mono h ds q
  | .dct _ ds, q => D.cls_mono h ds q
  | .ptr n, q => Nat.lt_of_lt_of_le q h
  | .non, q => q
  | .bl _, q => q
  | .int _, q => q
  | .str _, q => q
  | .rol _, q => q
  | .rng _ _, q => q
  | .ty _, q => q
theorem D.cls_mono {k k' : Nat} (h : k ≤ k') : ∀ ds : List D, D.cls k ds → D.cls k' ds
  | [], q => q
  | d :: ds, q => ⟨D.cl_mono h d q.1, D.cls_mono h ds q.2⟩
end
theorem cls_all {k : Nat} : ∀ {ds : List D}, (∀ d ∈ ds, D.cl k d) → D.cls k ds
  | [], _ => trivial
  | d :: ds, h => ⟨h d List.mem_cons_self, cls_all fun e he => h e (List.mem_cons_of_mem _ he)⟩
/-! ### numbers as sets of bits -/
theorem bAnd_nat (a b : Nat) : Builtin.bitAnd (a : Int) (b : Int) = ((a &&& b : Nat) : Int) := by
  unfold Builtin.bitAnd
  simp
theorem bOr_nat (a b : Nat) : Builtin.bitOr (a : Int) (b : Int) = ((a ||| b : Nat) : Int) := by
  have e : ∀ k : Nat, (Builtin.bitNot (Builtin.bitNot (k : Int))).toNat = k := fun k => by unfold Builtin.bitNot; omega
  have l : ∀ k : Nat, decide (0 ≤ Builtin.bitNot (k : Int)) = false := fun k => by unfold Builtin.bitNot; simp; omega
  unfold Builtin.bitOr Builtin.bitAnd
  simp only [e, l]
  unfold Builtin.bitNot
  omega
theorem bXor_bit {m k : Nat} (h : m.testBit k = true) : Builtin.bitXor (m : Int) ((2 ^ k : Nat) : Int) = ((m - 2 ^ k : Nat) : Int) := by
  have h1 : m ||| 2 ^ k = m := by
    apply Nat.eq_of_testBit_eq
    intro i
    rw [Nat.testBit_or, Nat.testBit_two_pow]
    by_cases e : k = i
    · subst e; simp [h]
    · simp [e]
  have h2 : m &&& 2 ^ k = 2 ^ k := by
    apply Nat.eq_of_testBit_eq
    intro i
    rw [Nat.testBit_and, Nat.testBit_two_pow]
    by_cases e : k = i
    · subst e; simp [h]
    · simp [e]
  have h3 : 2 ^ k ≤ m := Nat.ge_two_pow_of_testBit h
  unfold Builtin.bitXor
  rw [bOr_nat, bAnd_nat, h1, h2]
  omega
theorem bXor_bitI {m k : Nat} (h : m.testBit k = true) : Builtin.bitXor (m : Int) ((2 : Int) ^ k) = ((m - 2 ^ k : Nat) : Int) := by
  rw [← bXor_bit h]; simp
theorem sub_bit : ∀ {k m : Nat} (i : Nat), m.testBit k = true → (m - 2 ^ k).testBit i = (m.testBit i && decide (k ≠ i))
  | 0, m, i, h => by
    have h1 : m % 2 = 1 := by simpa [Nat.testBit_zero] using h
    cases i with
    | zero => simp [Nat.testBit_zero]; omega
    | succ i =>
      rw [Nat.testBit_succ, Nat.testBit_succ]
      have e : (m - 2 ^ 0) / 2 = m / 2 := by omega
      rw [e]; simp
  | k + 1, m, i, h => by
    rw [Nat.testBit_succ] at h
    have hle : 2 ^ k ≤ m / 2 := Nat.ge_two_pow_of_testBit h
    have p : 2 ^ (k + 1) = 2 * 2 ^ k := by rw [Nat.pow_succ]; omega
    cases i with
    | zero =>
      rw [Nat.testBit_zero, Nat.testBit_zero]
      have : (m - 2 ^ (k + 1)) % 2 = m % 2 := by omega
      rw [this]; simp
    | succ i =>
      rw [Nat.testBit_succ, Nat.testBit_succ]
      have e : (m - 2 ^ (k + 1)) / 2 = m / 2 - 2 ^ k := by omega
      rw [e, sub_bit i h]
      simp
theorem low_ex : ∀ (m : Nat), 0 < m → ∃ k, m.testBit k = true ∧ (∀ i, i < k → m.testBit i = false) ∧ m - (m &&& (m - 1)) = 2 ^ k ∧ (m &&& (m - 1)) ≤ m := by
  intro m
  induction m using Nat.strongRecOn with | _ m ih =>
    intro hm
    by_cases h : m % 2 = 1
    · refine ⟨0, by simp [Nat.testBit_zero, h], fun i hi => by omega, ?_, Nat.and_le_left⟩
      have e : m &&& (m - 1) = m - 1 := by
        apply Nat.eq_of_testBit_eq
        intro i
        rw [Nat.testBit_and]
        cases i with
        | zero => simp only [Nat.testBit_zero]; have : (m - 1) % 2 = 0 := by omega
                  simp [this]
        | succ i =>
          rw [Nat.testBit_succ, Nat.testBit_succ]
          have : (m - 1) / 2 = m / 2 := by omega
          rw [this]; simp
      rw [e]; omega
    · obtain ⟨k, h1, h2, h3, h4⟩ := ih (m / 2) (by omega) (by omega)
      have e : m &&& (m - 1) = 2 * (m / 2 &&& (m / 2 - 1)) := by
        apply Nat.eq_of_testBit_eq
        intro i
        rw [Nat.testBit_and]
        cases i with
        | zero => simp only [Nat.testBit_zero]; have : m % 2 = 0 := by omega
                  simp [this]
        | succ i =>
          rw [Nat.testBit_succ, Nat.testBit_succ, Nat.testBit_succ]
          have : (m - 1) / 2 = m / 2 - 1 := by omega
          rw [this, Nat.mul_div_cancel_left _ (by omega), Nat.testBit_and]
      refine ⟨k + 1, by rw [Nat.testBit_succ]; exact h1, fun i hi => ?_, ?_, Nat.and_le_left⟩
      · cases i with
        | zero => simp [Nat.testBit_zero]; omega
        | succ i => rw [Nat.testBit_succ]; exact h2 i (by omega)
      · rw [e, Nat.pow_succ]; omega
/-- the number m & -m, and its place -/
theorem low_int {m : Nat} (hm : 0 < m) : ∃ k, m.testBit k = true ∧ (∀ i, i < k → m.testBit i = false) ∧ Builtin.bitAnd (m : Int) (-(m : Int)) = ((2 ^ k : Nat) : Int) := by
  obtain ⟨k, h1, h2, h3, h4⟩ := low_ex m hm
  refine ⟨k, h1, h2, ?_⟩
  have e : (Builtin.bitNot (-(m : Int))).toNat = m - 1 := by unfold Builtin.bitNot; omega
  have l : decide (0 ≤ (m : Int)) = true := by simp
  have l2 : decide (0 ≤ -(m : Int)) = false := by simp; omega
  unfold Builtin.bitAnd
  simp only [e, l, l2]
  rw [← h3]
  simp only [Int.toNat_natCast]
  omega
theorem bits_pow (k : Nat) : Builtin.Int.intBits ((2 ^ k : Nat) : Int) = k + 1 := by
  unfold Builtin.Int.intBits
  have h : (2 ^ k : Nat) ≠ 0 := Nat.pos_iff_ne_zero.mp (Nat.two_pow_pos k)
  rw [if_neg (fun e => h (by have q := eq_of_beq e; exact Int.ofNat_eq_zero.mp q)), Int.natAbs_natCast, Nat.log2_two_pow]
theorem bits_powI (k : Nat) : Builtin.Int.intBits ((2 : Int) ^ k) = k + 1 := by
  rw [show (2 : Int) ^ k = ((2 ^ k : Nat) : Int) by simp, bits_pow]
/-- the bits of a number, ascending -/
def bitsN (n m : Nat) : List Nat := (List.range n).filter fun i => m.testBit i
theorem bitsN_zero {n m : Nat} (hm : m < 2 ^ n) (h : bitsN n m = []) : m = 0 := by
  apply Nat.eq_of_testBit_eq
  intro i
  rw [Nat.zero_testBit]
  by_cases hi : i < n
  · have := List.filter_eq_nil_iff.mp h i (List.mem_range.mpr hi)
    simpa using this
  · exact Nat.testBit_lt_two_pow (Nat.lt_of_lt_of_le hm (Nat.pow_le_pow_right (by omega) (by omega)))
theorem asc_ext {l l' : List Nat} (h : l.Pairwise (· < ·)) (h' : l'.Pairwise (· < ·)) (e : ∀ a, a ∈ l ↔ a ∈ l') : l = l' := by
  have nd : ∀ {l : List Nat}, l.Pairwise (· < ·) → l.Nodup := fun h => h.imp fun h => Nat.ne_of_lt h
  exact ((List.perm_ext_iff_of_nodup (nd h) (nd h')).mpr e).eq_of_pairwise (fun a b _ _ h1 h2 => by omega) h h'
theorem bitsN_asc (n m : Nat) : (bitsN n m).Pairwise (· < ·) := List.Pairwise.filter _ List.pairwise_lt_range
theorem mem_bitsN {n m i : Nat} : i ∈ bitsN n m ↔ i < n ∧ m.testBit i = true := by unfold bitsN; rw [List.mem_filter, List.mem_range]
theorem bitsN_step {n m k : Nat} (hm : m < 2 ^ n) (h1 : m.testBit k = true) (h2 : ∀ i, i < k → m.testBit i = false) : bitsN n m = k :: bitsN n (m - 2 ^ k) := by
  have hk : k < n := by
    rcases Nat.lt_or_ge k n with h | h
    · exact h
    · rw [Nat.testBit_lt_two_pow (Nat.lt_of_lt_of_le hm (Nat.pow_le_pow_right (by omega) h))] at h1; cases h1
  refine asc_ext (bitsN_asc _ _) (List.pairwise_cons.mpr ⟨fun a ha => ?_, bitsN_asc _ _⟩) fun a => ?_
  · obtain ⟨ha1, ha2⟩ := mem_bitsN.mp ha
    rw [sub_bit a h1] at ha2
    simp at ha2
    rcases Nat.lt_or_ge k a with h | h
    · exact h
    · rcases Nat.lt_or_ge a k with h' | h'
      · rw [h2 a h'] at ha2; simp at ha2
      · omega
  · rw [List.mem_cons, mem_bitsN, mem_bitsN, sub_bit a h1]
    by_cases e : k = a
    · subst e; simp [hk, h1]
    · have e' : ¬ a = k := fun h => e h.symm
      simp [e, e']
theorem ixNn {n j : Nat} (hj : j < n) : ixN n (j : Int) = some j := by
  unfold ixN
  rw [if_pos (Int.natCast_nonneg j), if_pos (by omega)]
  simp
/-! ### tables, orders as data -/
def dN (k : Nat) : D := .int (k : Int)
def pD (p : Nat × Nat) : D := .tup [dN p.1, dN p.2]
def ordD (n : Nat) (P : List (Nat × Nat)) : D := .tup [dN n, .tup (P.map pD)]
def tab (n : Nat) (u : Nat → Nat) : List D := (List.range n).map fun x => dN (u x)
@[simp] theorem tab_len (n : Nat) (u : Nat → Nat) : (tab n u).length = n := by simp [tab]
theorem tab_get {n x : Nat} (u : Nat → Nat) (h : x < n) : (tab n u)[x]? = some (dN (u x)) := by
  simp [tab, h]
theorem set_fun {α : Type} {n x : Nat} (f : Nat → α) (v : α) : ((List.range n).map f).set x v = (List.range n).map fun i => if i = x then v else f i := by
  refine List.ext_getElem (by simp) ?_
  intro i h1 h2
  simp [List.getElem_set]
  by_cases e : x = i
  · simp [e]
  · simp [e]
    intro q; exact absurd q.symm e
theorem tab_set {n x : Nat} (u : Nat → Nat) (v : Nat) : (tab n u).set x (dN v) = tab n (fun i => if i = x then v else u i) := by
  unfold tab
  rw [set_fun]
  congr 1
  funext i
  by_cases e : i = x <;> simp [e]
theorem clN (k : Nat) (j : Nat) : D.cl k (dN j) := trivial
theorem cl_pD (k : Nat) (p : Nat × Nat) : D.cl k (pD p) := ⟨trivial, trivial, trivial⟩
theorem cls_map {α : Type} {k : Nat} {f : α → D} (h : ∀ a, D.cl k (f a)) (l : List α) : D.cls k (l.map f) := cls_all fun d hd => by
  obtain ⟨a, _, e⟩ := List.mem_map.mp hd
  subst e
  exact h a
theorem cl_ordD (k n : Nat) (P : List (Nat × Nat)) : D.cl k (ordD n P) := ⟨trivial, cls_map (cl_pD k) P, trivial⟩
/-- the masks of what lies above, below -/
def upF (P : List (Nat × Nat)) (u : Nat → Nat) : Nat → Nat := P.foldl (fun u p i => if i = p.1 then u p.1 ||| 2 ^ p.2 else u i) u
theorem upF_bit : ∀ (P : List (Nat × Nat)) (u : Nat → Nat) (x y : Nat), (upF P u x).testBit y = ((u x).testBit y || decide ((x, y) ∈ P))
  | [], u, x, y => by simp [upF]
  | p :: P, u, x, y => by
    have e : upF (p :: P) u = upF P (fun i => if i = p.1 then u p.1 ||| 2 ^ p.2 else u i) := rfl
    rw [e, upF_bit P]
    by_cases h : x = p.1
    · subst h
      rw [if_pos rfl, Nat.testBit_or, Nat.testBit_two_pow]
      have q : ((p.1, y) ∈ p :: P) ↔ (p.2 = y ∨ (p.1, y) ∈ P) := by
        rw [List.mem_cons, Prod.ext_iff]
        simp [eq_comm]
      simp [q, Bool.or_assoc]
    · rw [if_neg h]
      have q : ((x, y) ∈ p :: P) ↔ (x, y) ∈ P := by
        rw [List.mem_cons, Prod.ext_iff]
        simp [h]
      simp [q]
theorem upF_lt {P : List (Nat × Nat)} {n : Nat} (h : ∀ p ∈ P, p.2 < n) (x : Nat) : upF P (fun _ => 0) x < 2 ^ n := by
  apply Nat.lt_pow_two_of_testBit
  intro i hi
  rw [upF_bit]
  simp
  intro q
  have := h _ q
  simp at this
  omega

/-- an order's pairs, ascending -/
def canon (n : Nat) (r : Nat → Nat → Bool) : List (Nat × Nat) := (List.range n).flatMap fun x => ((List.range n).filter fun y => r x y).map fun y => (x, y)
theorem mem_canon {n : Nat} {r : Nat → Nat → Bool} {x y : Nat} : (x, y) ∈ canon n r ↔ x < n ∧ y < n ∧ r x y = true := by
  unfold canon
  simp only [List.mem_flatMap, List.mem_range, List.mem_map, List.mem_filter]
  constructor
  · rintro ⟨a, h1, b, ⟨h2, h3⟩, e⟩
    cases e
    exact ⟨h1, h2, h3⟩
  · rintro ⟨h1, h2, h3⟩
    exact ⟨x, h1, y, ⟨h2, h3⟩, rfl⟩
theorem canon_congr {n : Nat} {r r' : Nat → Nat → Bool} (h : ∀ x y, x < n → y < n → r x y = r' x y) : canon n r = canon n r' := by
  unfold canon
  rw [List.flatMap_def, List.flatMap_def]
  congr 1
  refine List.map_congr_left fun x hx => ?_
  congr 1
  refine List.filter_congr fun y hy => ?_
  exact h x y (List.mem_range.mp hx) (List.mem_range.mp hy)
theorem canon_len (n : Nat) (r : Nat → Nat → Bool) : (canon n r).length ≤ n * n := by
  unfold canon
  have : ∀ l : List Nat, (l.flatMap fun x => ((List.range n).filter fun y => r x y).map fun y => (x, y)).length ≤ l.length * n := by
    intro l
    induction l with
    | nil => simp
    | cons a l ih =>
      rw [List.flatMap_cons, List.length_append, List.length_cons, Nat.succ_mul]
      have : (((List.range n).filter fun y => r a y).map fun y => (a, y)).length ≤ n := by
        rw [List.length_map]
        exact Nat.le_trans (List.length_filter_le _ _) (by simp)
      omega
  simpa using this (List.range n)
@[simp] theorem filter_tt {α : Type} (l : List α) : l.filter (fun _ => true) = l := List.filter_eq_self.mpr fun _ _ => rfl
/-! ### comprehensions that leave the store alone -/
theorem lcA_pure {α : Type} {s : Src} {g : GM} {ft : EM Bool} {fe : EM D} {env : En} {S : Sto} {mk v : α → D} {p : α → Bool} (hs : s.okAt S = true) : ∀ (L : List α) (acc : List D), acc.length + L.length ≤ bigN →
    (∀ a ∈ L, ∃ env1, g (mk a) env = some env1 ∧ ft env1 S = .ok (p a) S ∧ (p a = true → fe env1 S = .ok (v a) S)) → lcA s g ft fe env (L.map mk) acc S = .ok (acc ++ (L.filter p).map v) S
  | [], acc, _, _ => by
    rw [List.map_nil, lcA, if_pos hs]; simp
  | a :: L, acc, hb, h => by
    obtain ⟨env1, h1, h2, h3⟩ := h a List.mem_cons_self
    have hb' : acc.length + L.length + 1 ≤ bigN := by simp at hb; omega
    rw [List.map_cons, lcA, if_pos hs, h1]
    simp only [h2, Rs.nox_ok, Rs.bnd_ok]
    cases hp : p a with
    | false =>
      rw [if_neg (by decide), lcA_pure hs L acc (by omega) fun b hb => h b (List.mem_cons_of_mem _ hb), List.filter_cons_of_neg (by simp [hp])]
    | true =>
      rw [if_pos rfl, h3 hp]
      simp only [Rs.nox_ok, Rs.bnd_ok]
      rw [if_pos (by omega), lcA_pure hs L (acc ++ [v a]) (by simp; omega) fun b hb => h b (List.mem_cons_of_mem _ hb), List.filter_cons_of_pos hp, List.map_cons, List.append_assoc]
      rfl
theorem lcB_pure {α : Type} {s : Src} {g g1 : GM} {ft ft1 : EM Bool} {fi1 : EI} {fe : EM D} {vs1 : List Nat} {env : En} {S : Sto} {mk : α → D} {w : α → List D} {c : Nat} (hs : s.okAt S = true) : ∀ (L : List α) (acc : List D), acc.length + L.length * c ≤ bigN →
    (∀ a ∈ L, ∃ env1, g (mk a) env = some env1 ∧ ft env1 S = .ok true S ∧ ∃ s1, fi1 env1 S = .ok s1 S ∧ (w a).length ≤ c ∧ ∀ acc : List D, acc.length + c ≤ bigN → lcA s1 g1 ft1 fe (wipeE env1 vs1) s1.items acc S = .ok (acc ++ w a) S) →
    lcB s g ft fi1 g1 ft1 fe vs1 env (L.map mk) acc S = .ok (acc ++ L.flatMap w) S
  | [], acc, _, _ => by
    rw [List.map_nil, lcB, if_pos hs]; simp
  | a :: L, acc, hb, h => by
    obtain ⟨env1, h1, h2, s1, h3, h4, h5⟩ := h a List.mem_cons_self
    have hb' : acc.length + c + L.length * c ≤ bigN := by rw [List.length_cons, Nat.succ_mul] at hb; omega
    rw [List.map_cons, lcB, if_pos hs, h1]
    simp only [h2, Rs.nox_ok, Rs.bnd_ok, if_true, h3]
    rw [h5 acc (by omega)]
    simp only [Rs.bnd_ok]
    rw [lcB_pure hs L _ (by rw [List.length_append]; omega) fun b hb => h b (List.mem_cons_of_mem _ hb), List.flatMap_cons, List.append_assoc]

theorem Fof_next0 {N : List Str} {run : SM} {ds : List D} {S0 : Sto} {env : En} (h : run (startE N ds) S0 = .mk (.next env) S0) : Fof 0 N run ds S0 = .ok .non S0 := by
  unfold Fof
  rw [h]
  show fin0 _ _ _ _ = _
  unfold fin0 frz
  simp only []
  rw [if_pos (shut_self (d := .non) trivial), List.take_length]
theorem rangeD_n (n : Nat) : rangeD 0 (n : Int) = (List.range n).map dN := by
  unfold rangeD
  simp
  intro a _
  simp [dN]
theorem rangeD_nn (a b : Nat) : rangeD (a : Int) (b : Int) = (List.range' a (b - a)).map dN := by
  unfold rangeD
  rw [List.range'_eq_map_range, List.map_map, show ((b : Int) - (a : Int)).toNat = b - a by omega]
  refine List.map_congr_left fun j _ => ?_
  simp [dN]
theorem and_bit (m y : Nat) : (Builtin.bitAnd ((m : Int) / 2 ^ y) 1 != 0) = m.testBit y := by
  have e : (m : Int) / 2 ^ y = ((m / 2 ^ y : Nat) : Int) := by simp
  rw [e, show (1 : Int) = ((1 : Nat) : Int) from rfl, bAnd_nat, Nat.and_one_is_mod, Nat.testBit_eq_decide_div_mod_eq]
  by_cases h : m / 2 ^ y % 2 = 1
  · simp [h]
  · have : m / 2 ^ y % 2 = 0 := by omega
    simp [this]
def ptAt (l : List Nat) (i : Nat) : Nat := l.getD i 0
theorem ptAt_get {l : List Nat} {i : Nat} (h : i < l.length) : l[i]? = some (ptAt l i) := by
  simp [ptAt, h]
theorem ptAt_mem {l : List Nat} {i : Nat} (h : i < l.length) : ptAt l i ∈ l := by
  simp [ptAt, h]
theorem ptAt_I {l : List Nat} {i : Nat} (h : i < l.length) : L2.atI (l.map dN) (i : Int) = some (dN (ptAt l i)) := atI_nat (by rw [List.getElem?_map, ptAt_get h]; rfl)

/-! ### sorted pairs -/
def lexLe (p q : Int × Int) : Prop := p.1 < q.1 ∨ (p.1 = q.1 ∧ p.2 ≤ q.2)
theorem lexB_no {p q : Int × Int} (h : ¬ SrtO.lexB p q = true) : lexLe q p := by
  rw [SrtO.lexB_iff] at h
  unfold lexLe
  omega
def toI (p : Nat × Nat) : Int × Int := ((p.1 : Int), (p.2 : Int))
theorem canon_srt (n : Nat) (r : Nat → Nat → Bool) : (canon n r).Pairwise fun p q => p.1 < q.1 ∨ (p.1 = q.1 ∧ p.2 < q.2) := by
  unfold canon
  rw [List.flatMap_def]
  refine List.pairwise_flatten.mpr ⟨fun l hl => ?_, ?_⟩
  · obtain ⟨x, hx, rfl⟩ := List.mem_map.mp hl
    rw [List.pairwise_map]
    refine (List.Pairwise.filter _ List.pairwise_lt_range).imp fun {a b} h => .inr ⟨rfl, h⟩
  · rw [List.pairwise_map]
    refine List.pairwise_lt_range.imp fun {a b} h p hp q hq => ?_
    obtain ⟨y, _, rfl⟩ := List.mem_map.mp hp
    obtain ⟨z, _, rfl⟩ := List.mem_map.mp hq
    exact .inl h
theorem canon_nodup (n : Nat) (r : Nat → Nat → Bool) : (canon n r).Nodup := (canon_srt n r).imp fun {a b} h e => by subst e; omega
@[simp] theorem t3_0 (a b c : D) : L2.atI [a, b, c] 0 = some a := rfl
@[simp] theorem t3_1 (a b c : D) : L2.atI [a, b, c] 1 = some b := rfl
@[simp] theorem t3_2 (a b c : D) : L2.atI [a, b, c] 2 = some c := rfl
@[simp] theorem t2_0 (a b : D) : L2.atI [a, b] 0 = some a := rfl
@[simp] theorem t2_1 (a b : D) : L2.atI [a, b] 1 = some b := rfl
theorem if_f {c : EM Bool} {a b : SM} {env : En} {S S' : Sto} {r : Ss} (h : c env S = .ok false S') (h2 : b env S' = r) : zIfS c a b env S = r := by
  unfold zIfS; rw [h]; exact h2
theorem seq_n {a b : SM} {env env' : En} {S S' : Sto} {r : Ss} (h : a env S = .mk (.next env') S') (h2 : b env' S' = r) : zSeq a b env S = r := by
  unfold zSeq; rw [h]; exact h2
theorem set_n {i : Nat} {a : EM D} {env : En} {S S' : Sto} {d : D} (h : a env S = .ok d S') : zSet i a env S = .mk (.next (env.set i (some d))) S' := by
  unfold zSet; rw [h]; rfl
@[simp] def u_zSeq := @zSeq.eq_def
@[simp] def u_zSet := @zSet.eq_def
@[simp] def u_zExpr := @zExpr.eq_def
@[simp] def u_zRet := @zRet.eq_def
@[simp] def u_zIfS := @zIfS.eq_def
@[simp] def u_zVar := @zVar.eq_def
@[simp] def u_zC := @zC.eq_def
@[simp] def u_zOp := @zOp.eq_def
@[simp] def u_zCons := @zCons.eq_def
@[simp] def u_zNil := @zNil.eq_def
@[simp] def u_zTup := @zTup.eq_def
@[simp] def u_zLst := @zLst.eq_def
@[simp] def u_zLstC := @zLstC.eq_def
@[simp] def u_zCall := @zCall.eq_def
@[simp] def u_zCallF := @zCallF.eq_def
@[simp] def u_zTru := @zTru.eq_def
@[simp] def u_truD := @truD.eq_def
@[simp] def u_zB := @zB.eq_def
@[simp] def u_zAnd := @zAnd.eq_def
@[simp] def u_zOr := @zOr.eq_def
@[simp] def u_zNot := @zNot.eq_def
@[simp] def u_zAndV := @zAndV.eq_def
@[simp] def u_zOrV := @zOrV.eq_def
@[simp] def u_zNotV := @zNotV.eq_def
@[simp] def u_zUn := @zUn.eq_def
@[simp] def u_zPut := @zPut.eq_def
@[simp] def u_zAug := @zAug.eq_def
@[simp] def u_zAugS := @zAugS.eq_def
@[simp] def u_zAsg := @zAsg.eq_def
@[simp] def u_zNext := @zNext.eq_def
@[simp] def u_zRetN := @zRetN.eq_def
@[simp] def u_zMethL := @zMethL.eq_def
@[simp] def u_isPtrL := @isPtrL.eq_def
@[simp] def u_zgName := @zgName.eq_def
@[simp] def u_zgTup := @zgTup.eq_def
@[simp] def u_zgCons := @zgCons.eq_def
@[simp] def u_zgNil := @zgNil.eq_def
@[simp] def u_zStk := @zStk.eq_def
@[simp] def u_dNeg := @dNeg.eq_def
@[simp] def u_dBits := @dBits.eq_def
@[simp] def u_dIx := @dIx.eq_def
@[simp] def u_dIsN := @dIsN.eq_def
@[simp] def u_anyOf := @anyOf.eq_def
@[simp] def u_seqOf := @seqOf.eq_def
@[simp] def u_dLen := @dLen.eq_def
@[simp] def u_dInt := @dInt.eq_def
@[simp] def u_dAbs := @dAbs.eq_def
@[simp] def u_dTuple := @dTuple.eq_def
@[simp] def u_stSet := @stSet.eq_def
@[simp] def u_ptrAt := @ptrAt.eq_def
@[simp] def u_dAppend := @dAppend.eq_def
@[simp] def u_dPopAt := @dPopAt.eq_def
@[simp] def u_popAt := @popAt.eq_def
@[simp] def u_startE := @startE.eq_def
@[simp] def u_zCallK := @zCallK.eq_def
end Z

namespace Z
open PySem L2
open PySem.Spec PyProof.Rows
variable [Tabs]

/-! ### closures -/
def War (u : Nat → Nat) : Nat → Nat → Nat
  | 0, x => u x
  | k + 1, x => if (War u k x).testBit k = true then War u k x ||| War u k k else War u k x
theorem war_lt (u : Nat → Nat) {n : Nat} (h : ∀ x, u x < 2 ^ n) : ∀ k x, War u k x < 2 ^ n
  | 0, x => h x
  | k + 1, x => by
    rw [War]
    split
    · exact Nat.or_lt_two_pow (war_lt u h k x) (war_lt u h k k)
    · exact war_lt u h k x

/-! ### ascending pairs -/
def lexLt (p q : Nat × Nat) : Prop := p.1 < q.1 ∨ (p.1 = q.1 ∧ p.2 < q.2)
theorem lex_ext {l l' : List (Nat × Nat)} (h : l.Pairwise lexLt) (h' : l'.Pairwise lexLt) (e : ∀ a, a ∈ l ↔ a ∈ l') : l = l' := by
  have nd : ∀ {l : List (Nat × Nat)}, l.Pairwise lexLt → l.Nodup := fun h => h.imp fun {a b} h q => by subst q; unfold lexLt at h; omega
  refine ((List.perm_ext_iff_of_nodup (nd h) (nd h')).mpr e).eq_of_pairwise (fun a b _ _ h1 h2 => ?_) h h'
  unfold lexLt at h1 h2
  omega
theorem canon_lex (n : Nat) (r : Nat → Nat → Bool) : (canon n r).Pairwise lexLt := canon_srt n r
end Z

namespace Z
open PySem L2
open PySem.Spec PyProof.Rows
variable [Tabs]

/-! ### data of pairs and orders -/
def pP (p : Nat × Nat) : PyData := .tuple [.int p.1, .int p.2]
theorem toP_pD (S : Sto) (p : Nat × Nat) : toP S (pD p) = some (pP p) := rfl
theorem toP_N (S : Sto) (k : Nat) : toP S (dN k) = some (.int k) := rfl
def nP (k : Nat) : PyData := .int k
theorem toPs_N (S : Sto) : ∀ l : List Nat, toPs S (l.map dN) = some (l.map nP)
  | [] => rfl
  | p :: l => by rw [List.map_cons, List.map_cons, toPs, toP_N, toPs_N S l]; rfl
theorem eqv_pP (p q : Nat × Nat) : PyData.eqv (pP p) (pP q) = decide (p = q) := by
  rw [Bool.eq_iff_iff]
  simp [pP, PyData.eqv, PyData.eqvAll, Prod.ext_iff]
  omega
theorem sh_pP (p : Nat × Nat) : SeqAt.shaped (pP p) = true := by
  unfold SeqAt.shaped
  simp [pP, PyData.canLay0, PyData.canLayAll0, PyData.depth, PyData.depthAll]
/-! ### sorted links -/
theorem sort_nat (l : List (Nat × Nat)) : ∃ ls : List (Nat × Nat), (sortP (l.map toI)).map Z.pairD = ls.map pD ∧ ls.Perm l ∧ ls.Pairwise fun p q => p = q ∨ lexLt p q := by
  have hb : ∀ p ∈ sortP (l.map toI), toI (p.1.toNat, p.2.toNat) = p := fun p hp => by
    obtain ⟨q, _, e⟩ := List.mem_map.mp ((sortP_perm _).mem_iff.mp hp)
    subst e
    simp [toI]
  refine ⟨(sortP (l.map toI)).map fun p => (p.1.toNat, p.2.toNat), ?_, ?_, ?_⟩
  · rw [List.map_map]
    refine List.map_congr_left (fun p hp => ?_)
    have := hb p hp
    show Z.pairD p = pD (p.1.toNat, p.2.toNat)
    rw [← this]
    simp [Z.pairD, pD, toI, dN]
  · have := (sortP_perm (l.map toI)).map fun p : Int × Int => (p.1.toNat, p.2.toNat)
    rw [List.map_map] at this
    simpa [toI, Function.comp_def] using this
  · rw [List.pairwise_map]
    refine ((List.Pairwise.and_mem.mp (sortP_srt (l.map toI))).imp fun {p q} h => ?_)
    obtain ⟨h1, h2, h3⟩ := h
    have a := hb p h1
    have b := hb q h2
    have c := lexB_no (p := q) (q := p) (by rw [h3]; simp)
    rw [← a, ← b] at c
    unfold lexLe toI at c
    unfold lexLt
    simp only [Prod.mk.injEq] at c ⊢
    omega
end Z

/-! G1: generator expressions over anything that PI serves. -/
namespace G
open PySem L2 GenW GxR
open PySem.Spec PyProof.Rows

/-- the code of a generator expression, its loop under way -/
abbrev gLoop (elt tg iter : Expr) (ifs : List Expr) (scope : Scope) (pos : Pos) (it : Addr) (env : Env) : Code := .compLoop (.GeneratorExp elt [⟨tg, iter, ifs, 0⟩] scope pos) 0 (.ref it) .none env
abbrev gStart (elt tg iter : Expr) (ifs : List Expr) (scope : Scope) (pos : Pos) (it : Addr) (env : Env) : Code := .compStart (.GeneratorExp elt [⟨tg, iter, ifs, 0⟩] scope pos) 0 (.ref it) .none env
/-- the frame of the generator lies straight over its maker's -/
theorem over_loopG {A : Around} {elt tg iter : Expr} {ifs : List Expr} {scope : Scope} {pos : Pos} {it : Addr} {env : Env} : A.over (gLoop elt tg iter ifs scope pos it env) [] = A.deeper env := rfl
section
variable {M : Model} {A A' : Around} {R : GenEnd} {Y : Protocol} {n : Nat} {s₀ s : Shared} {c : Code} {α β γ : Type} {t : Sem α}
/-- one step of a frame, the rest behind it -/
theorem step1 {K : α → Sem β} {K' : β → Sem PySem.Fin} {H' : Value → Sem PySem.Fin} {gd : Bool → Bool} {lv : List Value → List Value} (ov : A.over c [] = A') (h : wpAny M A' t (fun a s' => Seg M A R Y n s₀ c (Sem.wrap K' H' gd lv (K a)) [] s') (fun x s' => Seg M A R Y n s₀ c (H' x) [] s') s) :
    Seg M A R Y n s₀ c (Sem.wrap K' H' gd lv (t >>= K)) [] s := seg_bind_wrap (ov ▸ h)
/-- one step of two that are bound twice -/
theorem step2 {J : α → Sem β} {K : β → Sem γ} {K' : γ → Sem PySem.Fin} {H' : Value → Sem PySem.Fin} {gd : Bool → Bool} {lv : List Value → List Value} (ov : A.over c [] = A')
    (h : wpAny M A' t (fun a s' => Seg M A R Y n s₀ c (Sem.wrap (fun b => Sem.wrap K' H' gd lv (K b)) (fun e => Sem.wrap K' H' gd lv (Sem.raise e)) (fun g => gd (id g)) (fun l => lv (id l)) (J a)) [] s') (fun x s' => Seg M A R Y n s₀ c (Sem.wrap (fun b => Sem.wrap K' H' gd lv (K b)) (fun e => Sem.wrap K' H' gd lv (Sem.raise e)) (fun g => gd (id g)) (fun l => lv (id l)) (Sem.raise x)) [] s') s) :
    Seg M A R Y n s₀ c (Sem.wrap K' H' gd lv ((t >>= J) >>= K)) [] s := by
  rw [Sem.bind_eq_wrap' (t >>= J) K, Sem.wrap_wrap (t >>= J)]
  exact step1 ov h
end

/-- the context of a generator expression's frame -/
abbrev gx (X : Cx) (s : Shared) (H : Hp) (A : Around) (cenv : Env) (fp : List Addr) (pn : List (Addr × Obj)) : Cx :=
  { X with s_0 := s, H_0 := H, A := A, env := cenv, outer := X.stack, stack := cenv :: X.stack, ex := fp, fn := fun _ => false, pn := pn, xe := fun _ _ => False }

/-- who consumes: what it pins when acc is out; what it does while the generator sleeps -/
structure Con (X : Cx) (fp : List Addr) where
  CP : List V → List (Addr × Obj) → Prop
  Wk : Value → Shared → Shared → Prop
  nfp : ∀ acc pins, CP acc pins → ∀ p ∈ pins, p.1 ∉ fp
  ok : ∀ acc y v pins σ H s s', CP acc pins → RelV y v → Inv X pins σ H s → Wk v s s' → ∃ pins', CP (acc ++ [y]) pins' ∧ Inv X pins' σ H s' ∧ ∀ b ∈ fp, ∀ o, s.heap.get? b = some o → s'.heap.get? b = some o

section
variable {X : Cx} {fp : List Addr}
def PG1 (Cn : Con X fp) (fin : List V → Hp → Prop) (n : Nat) (s₀ s : Shared) : Prop := ∃ acc pins σ H, n + acc.length = sizeLine ∧ Cn.CP acc pins ∧ Inv X pins σ H s ∧ fin acc H
def RG (Cn : Con X fp) (fin : List V → Hp → Prop) : GenEnd := fun n s₀ r s => r = .ok .next ∧ PG1 Cn fin n s₀ s
def YG (Cn : Con X fp) (stp : V → Option Bool) (cut : Hp → Prop) : Protocol := fun n s₀ v s kap =>
  ∃ acc pins y σ H, n + 1 + acc.length = sizeLine ∧ RelV y v ∧ Cn.CP acc pins ∧ Inv X pins σ H s ∧
    ((stp y = some false ∧ ∀ s', Cn.Wk v s s' → kap (.send .none) s') ∨ (stp y = some true ∧ cut H))

/-- what the loop is to keep -/
def GTurns (J : It) (g : TG) (tt : TT) (te : TE) (stp : V → Option Bool) (σ0 : L2.St) (vs : List Nat) (W : Nat → Nat → List V → Hp → Prop) (fin : List V → Hp → Prop) (cut : Hp → Prop) : Prop := ∀ i m acc H, W i m acc H →
  (J.stop i H ∧ fin acc H) ∨ (J.go i H ∧ ∃ Nx : List V → Hp → Prop, (∀ acc' H', Nx acc' H' → ∃ m', m' < m ∧ W (i + 1) m' acc' H') ∧ ∀ x H', J.yld i H x H' → g x σ0 H' fun σ2 H2 => wipe σ2 vs = σ0 ∧ tt σ2 H2 fun b H3 =>
    if b = true then te σ2 H3 fun y H4 => acc.length < sizeLine ∧ ((stp y = some false ∧ Nx (acc ++ [y]) H4) ∨ (stp y = some true ∧ cut H4)) else Nx acc H3)

/-- where the loop stands ahead of turn i -/
def LpAt (Cn : Con X fp) (tn : Nat → Heap → Prop) (σ0 : L2.St) (W : Nat → Nat → List V → Hp → Prop) (i m n : Nat) (acc : List V) (s : Shared) : Prop :=
  n + acc.length = sizeLine ∧ ∃ pins H, Cn.CP acc pins ∧ Inv X pins σ0 H s ∧ tn i s.heap ∧ (∀ b ∈ fp, H b = none) ∧ W i m acc H
/-- the walked things' places stay apart from what the frame has -/
theorem Con.apart (Cn : Con X fp) {pins : List (Addr × Obj)} {acc : List V} {σ' : L2.St} {H' : Hp} {s' : Shared} (hex : X.ex = fp) (hpn : ∀ p ∈ X.pn, p.1 ∉ fp) (hcp : Cn.CP acc pins) (I' : Inv X pins σ' H' s') (hn : ∀ b ∈ fp, H' b = none) : ∀ b ∈ fp, FpOk X pins H' b := by
  subst hex
  intro b hb
  have hx := I'.ok.exf b hb
  exact ⟨hn b hb, hx.1, I'.ok.exfs b hb, .inl hb, fun x c e => hx.2 x c e, fun p hp z => (List.mem_append.mp hp).elim (fun q => hpn p q (z ▸ hb)) fun q => Cn.nfp acc pins hcp p q (z ▸ hb)⟩
section
variable {A : Around} {Cn : Con X fp} {stp : V → Option Bool} {cut : Hp → Prop} {fin : List V → Hp → Prop} {elt tg iter : Expr} {ifs : List Expr} {scope : Scope} {pos : Pos} {it : Addr} {tn : Nat → Heap → Prop} {J : It} {g : TG} {tt : TT} {te : TE} {σ0 : L2.St} {vs : List Nat} {W : Nat → Nat → List V → Hp → Prop}
/-- what is asked of the frame -/
structure LpOk (A : Around) (X : Cx) (fp : List Addr) (elt tg iter : Expr) (ifs : List Expr) (it : Addr) (tn : Nat → Heap → Prop) (J : It) (g : TG) (tt : TT) (te : TE) (σ0 : L2.St) (vs : List Nat) : Prop where
  noX : ∀ e s, X.xe e s → False
  ov : X.A = A.deeper X.env
  calm : X.calm = true
  ex : X.ex = fp
  pn : ∀ p ∈ X.pn, p.1 ∉ fp
  co : X.env.scope.isCoroutine = false
  tu : Turn X.prog X.w X.K tg J fp it tn
  pg : PG X tg g
  pt : PTs X ifs tt
  pe : PE X elt te
  wp : ∀ σ : L2.St, wipe σ vs = σ0 → ∀ (i : Nat) (v : V), σ0[i]? = some (some v) → σ[i]? = some (some v)
  len : σ0.length = X.N.length
/-- no error comes out of the frame's own steps -/
theorem LpOk.calmly (L : LpOk A X fp elt tg iter ifs it tn J g tt te σ0 vs) {α : Type} {t : Sem α} {Q Q' : α → Shared → Prop} {E : Value → Shared → Prop} {s : Shared} (h : wpAny (model X.prog X.w) X.A t Q X.xe s) (hQ : ∀ a s, Q a s → Q' a s) : wpAny (model X.prog X.w) X.A t Q' E s :=
  wpAny_mono h hQ fun e s z => absurd z fun z => L.noX e s z
/-- behind a turn: the walked things stand where the next turn wants them -/
theorem LpOk.after (L : LpOk A X fp elt tg iter ifs it tn J g tt te σ0 vs) {pins : List (Addr × Obj)} {i : Nat} {sb s' : Shared} {σ' : L2.St} {H' : Hp} (st : tn (i + 1) sb.heap) (hw : wipe σ' vs = σ0) (I' : Inv X (pins ++ pinsAt fp sb.heap) σ' H' s') : Inv X pins σ0 H' s' ∧ tn (i + 1) s'.heap ∧ ∀ b ∈ fp, H' b = none := by
  have same : ∀ b ∈ fp, ∀ o, sb.heap.get? b = some o → s'.heap.get? b = some o ∧ H' b = none := by
    intro b hb o e
    obtain ⟨p1, p2, _⟩ := I'.pin (b, o) (List.mem_append.mpr (.inr (List.mem_append.mpr (.inr (mem_pinsAt hb e)))))
    exact ⟨p1, p2⟩
  refine ⟨I'.unpinned.weak (by rw [L.len, ← I'.len]) (L.wp σ' hw), L.tu.keep _ _ _ st fun b hb o e => (same b hb o e).1, ?_⟩
  intro b hb
  have ho := L.tu.obj _ _ st b hb
  exact (same b hb ho.choose ho.choose_spec.1).2
/-- one turn, what comes behind it told by nxt -/
theorem seg_turn (L : LpOk A X fp elt tg iter ifs it tn J g tt te σ0 vs) (turn : GTurns J g tt te stp σ0 vs W fin cut) {i m n : Nat} {acc : List V} {s₀ s : Shared}
    (nxt : ∀ m', m' < m → ∀ (i n : Nat) (acc : List V) (s₀ s : Shared), LpAt Cn tn σ0 W i m' n acc s → Seg (model X.prog X.w) A (RG Cn fin) (YG Cn stp cut) n s₀ (gLoop elt tg iter ifs scope pos it X.env) ((model X.prog X.w).den (gLoop elt tg iter ifs scope pos it X.env)) [] s)
    (at0 : LpAt Cn tn σ0 W i m n acc s) : Seg (model X.prog X.w) A (RG Cn fin) (YG Cn stp cut) n s₀ (gLoop elt tg iter ifs scope pos it X.env) ((model X.prog X.w).den (gLoop elt tg iter ifs scope pos it X.env)) [] s := by
  obtain ⟨hn, pins, H, hcp, I, st, nn, w⟩ := at0
  have ov : A.over (gLoop elt tg iter ifs scope pos it X.env) [] = X.A := over_loopG.trans L.ov.symm
  have ap := Cn.apart L.ex L.pn hcp I nn
  show Seg _ A _ _ _ s₀ _ ((compTurn (.GeneratorExp elt [⟨tg, iter, ifs, 0⟩] scope pos) 0 (.ref it) .none X.env).onRaise (leaving X.env)) [] s
  have unf := compTurn_gen elt tg iter ifs scope pos (.ref it) .none X.env
  rw [unf, Sem.onRaise_eq_wrap]
  refine step1 ov (wpAny_standAt (step1 ov ?_))
  rcases turn i m acc H w with ⟨stop, q⟩ | ⟨go, Nx, hNx, body⟩
  · refine thnF (L.tu.done X rfl rfl rfl L.calm i pins s σ0 H (fun _ _ => False) I ap st stop) ?_
    rintro r se ⟨rfl, Ie⟩
    exact seg_end (.ok .next) ⟨rfl, acc, pins, σ0, H, hn, hcp, Ie, q⟩
  · refine thnF (L.tu.item X rfl rfl rfl L.calm i pins s σ0 H (fun _ _ => False) I ap st go) ?_
    rintro r sa ⟨u, rfl, ha⟩
    refine step1 ov (thnF ha ?_)
    rintro - sb ⟨x, Hb, Ib, rb, yb, stb, nb⟩
    refine step1 ov (L.calmly (L.pg.run _ sb _ Hb x u _ (Ib.pinned (Cn.apart L.ex L.pn hcp Ib nb) (L.tu.obj _ _ stb)) rb (body x Hb yb)) ?_)
    rintro - sc ⟨σc, Hc, Ic, hw, qc⟩
    refine step1 ov (L.calmly (L.pt.run _ sc σc Hc _ Ic qc) ?_)
    rintro ok sd ⟨Hd, Id, qd⟩
    cases ok with
    | false =>
      rw [if_neg Bool.false_ne_true] at qd ⊢
      obtain ⟨K1, K2, K3⟩ := L.after stb hw Id
      obtain ⟨m', hm, w'⟩ := hNx acc Hd qd
      exact seg_again rfl (nxt m' hm (i + 1) n acc s₀ sd ⟨hn, pins, Hd, hcp, K1, K2, K3, w'⟩)
    | true =>
      rw [if_pos rfl] at qd ⊢
      have yo : yieldOut X.env = yieldValue := by
        funext v
        unfold yieldOut
        rw [L.co]
        rfl
      rw [yo]
      refine step2 ov (L.calmly (L.pe.run _ sd σc Hd _ Id qd) ?_)
      rintro z se ⟨yv, He, Ie, re, hlt, alt⟩
      cases n with
      | zero => omega
      | succ n =>
        obtain ⟨K1, K2, K3⟩ := L.after stb hw Ie
        refine seg_at (seg_yield rfl rfl rfl ⟨acc, pins, yv, σ0, He, hn, re, hcp, K1, ?_⟩)
        refine alt.elim (fun ⟨hs, nx⟩ => .inl ⟨hs, fun s' hwk => ?_⟩) fun ⟨hs, hcut⟩ => .inr ⟨hs, hcut⟩
        obtain ⟨m', hm, w'⟩ := hNx _ He nx
        obtain ⟨pins', hcp', I', kp⟩ := Cn.ok acc yv z pins σ0 He se s' hcp re K1 hwk
        exact seg_again rfl (nxt m' hm (i + 1) n (acc ++ [yv]) s' s' ⟨by rw [List.length_append, List.length_singleton]; omega, pins', He, hcp', I', L.tu.keep _ _ _ K2 kp, K3, w'⟩)
theorem seg_gloop (L : LpOk A X fp elt tg iter ifs it tn J g tt te σ0 vs) (turn : GTurns J g tt te stp σ0 vs W fin cut) (m : Nat) :
    ∀ (i n : Nat) (acc : List V) (s₀ s : Shared), LpAt Cn tn σ0 W i m n acc s → Seg (model X.prog X.w) A (RG Cn fin) (YG Cn stp cut) n s₀ (gLoop elt tg iter ifs scope pos it X.env) ((model X.prog X.w).den (gLoop elt tg iter ifs scope pos it X.env)) [] s :=
  Nat.strongRecOn m fun _ ih _ _ _ _ _ h => seg_turn L turn (fun m' hm i n acc s₀ s => ih m' hm i n acc s₀ s) h
end
theorem seg_gstart {A : Around} {R : GenEnd} {Y : Protocol} {n : Nat} {s₀ s : Shared} {elt tg iter : Expr} {ifs : List Expr} {scope : Scope} {pos : Pos} {it : Addr} {env : Env} {prog : Program} {w : World} {tn : Nat → Heap → Prop} {J : It} {K : PySem.W.Frag}
    (T : Turn prog w K tg J fp it tn) (st : tn 0 s.heap)
    (loop : Seg (model prog w) A R Y n s₀ (gLoop elt tg iter ifs scope pos it env) ((model prog w).den (gLoop elt tg iter ifs scope pos it env)) [] s) :
    Seg (model prog w) A R Y n s₀ (gStart elt tg iter ifs scope pos it env) ((model prog w).den (gStart elt tg iter ifs scope pos it env)) [] s := by
  have go := seg_again (c := gStart elt tg iter ifs scope pos it env) (c' := gLoop elt tg iter ifs scope pos it env) rfl loop
  show Seg _ A _ _ _ s₀ _ ((compStart (.GeneratorExp elt [⟨tg, iter, ifs, 0⟩] scope pos) 0 (.ref it) .none env).onRaise (leaving env)) [] s
  rw [compStart, Sem.onRaise_eq_wrap]
  refine step1 rfl (wpAny_askSetting ?_)
  split
  · exact go
  · exact step1 rfl (wpAny_rule (step1 rfl (wpAny_standAt (step1 rfl (T.self _ 0 s _ _ st go)))))
end
end G

namespace G
open PySem L2 GenW GxR
open PySem.Spec PyProof.Rows
section
variable {X : Cx} {pins : List (Addr × Obj)} {σ : L2.St} {H : Hp} {s : Shared} {scope : Scope} {own : List (Str × Nat)}
abbrev gEnv (X : Cx) (scope : Scope) (C : Addr) (code : Value) : Env := genEnv scope (cloFrom X.env.cells scope.names []) C code builtinsNs X.env
/-! ### the cells that the frame takes over from its maker -/
theorem free_cell (I : Inv X pins σ H s) (ok : BlkOk X.N X.env.scope scope own) : ∀ y ∈ scope.names, y.2 = .free → ∃ c, X.env.cells.lookup y.1 = some c :=
  fun y hy e => (ok.free y hy e).elim (fun q => I.ok.has _ (.inl q)) fun q => I.ok.has _ (.inr q)
theorem took (I : Inv X pins σ H s) (ok : BlkOk X.N X.env.scope scope own) {y : Str} {c : Addr} (h : (y, c) ∈ cloFrom X.env.cells scope.names []) : X.env.cells.lookup y = some c ∧ c < s.heap.objs.size := by
  cases cloFrom_mem h with
  | inl q => exact absurd q List.not_mem_nil
  | inr q =>
    obtain ⟨hy, rfl⟩ := q
    have hc := free_cell I ok _ hy rfl
    have e := hc.choose_spec
    rw [e]
    exact ⟨rfl, (I.cell _ _ e).choose_spec.lt⟩
theorem taken (I : Inv X pins σ H s) (ok : BlkOk X.N X.env.scope scope own) {y : Str} (hl : scope.names.lookup y = some .free) : ∃ c, (cloFrom X.env.cells scope.names []).lookup y = some c ∧ X.env.cells.lookup y = some c := by
  have q := mem_lookup (cloFrom_has (cells := X.env.cells) (acc := []) (PySem.mem_of_lookup hl))
  exact ⟨_, q.choose_spec, (took I ok (PySem.mem_of_lookup q.choose_spec)).1⟩
/-- names that the wiping leaves a value are the maker's -/
theorem kept_free (ok : BlkOk X.N X.env.scope scope own) (hN : X.N.Nodup) {i : Nat} {y : Str} (e1 : X.N[i]? = some y) (hne : i ∉ own.map (·.2)) (e3 : scope.names.lookup y = some .local ∨ scope.names.lookup y = some .cell ∨ scope.names.lookup y = some .free) : scope.names.lookup y = some .free := by
  have not : ∀ k, scope.names.lookup y = some k → k = .local ∨ k = .cell → False := fun k e hk => by
    cases ok.own _ (PySem.mem_of_lookup e) hk with
    | inl q =>
      rw [List.mem_map] at q
      obtain ⟨⟨y', j⟩, hp, rfl⟩ := q
      exact hne (List.mem_map.mpr ⟨_, hp, nodup_ix hN (ok.ix _ hp) e1⟩)
    | inr q => exact q (List.mem_of_getElem? e1)
  exact e3.elim (fun e => (not _ e (.inl rfl)).elim) fun e3 => e3.elim (fun e => (not _ e (.inr rfl)).elim) id
section
variable {fp : List Addr} {code : Value} {A : Around} {s5 : Shared} {m0 : Str → Option Value} {a : Addr} {go : Obj}
theorem gx_ok (I : Inv X pins σ H s) (ok : BlkOk X.N X.env.scope scope own) (hcell : ∀ y ∈ scope.names, y.2 ≠ .cell) (hfp : ∀ b ∈ fp, FpOk X pins H b ∧ b < s.heap.objs.size) (hA : A.handled = none) (hF : A.frames = some (gEnv X scope s.heap.objs.size code :: X.stack)) : (gx X s H A (gEnv X scope s.heap.objs.size code) fp [(a, go)]).Ok := by
  have sees : ∀ {y c}, (cloFrom X.env.cells scope.names []).lookup y = some c → X.env.cells.lookup y = some c := fun e => (took I ok (PySem.mem_of_lookup e)).1
  refine ⟨I.ok.mod, ok.kind, I.ok.glob, rfl, Nat.le_refl _, fun y z c e1 e2 => I.ok.inj y z c (sees e1) (sees e2), fun y hy => ?_, fun y c z e => absurd z (by simp), fun _ => hA, hF, .inr ⟨rfl, rfl⟩, fun b hb => ⟨Nat.ne_of_lt (hfp b hb).2, fun y c e => (hfp b hb).1.2.2.2.2.1 y c (sees e)⟩, I.bs, Nat.le_trans I.ok.bsz I.sz, fun b o e hb => ?_, fun b hb z => ?_, I.stack, I.stkFree⟩
  · cases hy with
    | inl e => exact (hcell _ (PySem.mem_of_lookup e) rfl).elim
    | inr e => exact ⟨_, (taken I ok e).choose_spec.1⟩
  · exact (hfp b hb).1.2.2.2.1.elim (fun z => I.ok.noex b o e z) fun z => by
      exact Nat.not_le_of_lt (Heap.lt_size e) (Nat.le_trans I.ok.bsz z)
  · exact (List.mem_cons.mp (I.stkSub b z)).elim (hfp b hb).1.2.1 (hfp b hb).1.2.2.1
/-- the frame's context holds at the making -/
theorem gx_start (I : Inv X pins σ H s) (ok : BlkOk X.N X.env.scope scope own) (hN : X.N.Nodup) (hcell : ∀ y ∈ scope.names, y.2 ≠ .cell)
    (hfp : ∀ b ∈ fp, FpOk X pins H b ∧ b < s.heap.objs.size) (hA : A.handled = none) (hF : A.frames = some (gEnv X scope s.heap.objs.size code :: X.stack))
    (os : s5.os = s.os) (bare : AllBare s5.gens) (kp : ∀ b o, s.heap.get? b = some o → s5.heap.get? b = some o) (hC : s5.heap.Ns s.heap.objs.size m0) (ha : s.heap.objs.size < a) (hgo : s5.heap.get? a = some go) (hgc : ∀ v, go.data ≠ .cell v) :
    Inv (gx X s H A (gEnv X scope s.heap.objs.size code) fp [(a, go)]) [] (wipe σ (own.map (·.2))) H s5 := by
  have sees : ∀ {y c}, (cloFrom X.env.cells scope.names []).lookup y = some c → X.env.cells.lookup y = some c := fun e => (took I ok (PySem.mem_of_lookup e)).1
  refine ⟨gx_ok I ok hcell hfp hA hF, os, bare, Un.kept kp, ⟨m0, hC, fun i y av e1 e2 e3 => ?_⟩, fun y c e => ?_, I.hok.fresh (Nat.le_refl _), fun y c e => I.freeC y c (sees e), fun p hp => ?_, I.hok.kept kp, (wipe_length ..).trans I.len⟩
  · have e2 := wipe_some e2
    have fr := kept_free ok hN e1 e2.2 e3
    have fm := ok.free _ (PySem.mem_of_lookup fr) rfl
    obtain ⟨m, hn, hl⟩ := I.loc
    obtain ⟨w, r, q⟩ := hl i y av e1 e2.1 (.inr fm)
    obtain ⟨c, h1, h2⟩ := taken I ok fr
    refine ⟨w, r, .inr ⟨.inr fr, ?_⟩⟩
    cases q with
    | inl q =>
      have q1 : X.env.scope.names.lookup y = some .local := q.1
      cases fm with
      | inl z => exact nomatch (show some NameKind.local = some _ from q1.symm.trans z)
      | inr z => exact nomatch (show some NameKind.local = some _ from q1.symm.trans z)
    | inr q =>
      obtain ⟨_, c', e', z⟩ := q
      have := Option.some.inj (h2.symm.trans e')
      subst this
      exact ⟨c, h1, z.keeps kp⟩
  · have z := I.cell y c (sees e)
    exact ⟨_, z.choose_spec.keeps kp⟩
  · obtain rfl := List.mem_singleton.mp hp
    refine ⟨hgo, I.hok.fresh (Nat.le_of_lt ha), Nat.ne_of_gt ha, fun hb => (List.mem_cons.mp (I.stkSub a hb)).elim (fun z => ?_) (I.nofs (Nat.le_of_lt ha)), hgc⟩
    have h2 : a < s.heap.objs.size := by rw [z]; exact I.lt
    exact Nat.lt_asymm ha h2
end

/-- a generator is made, not begun -/
def GRdy (X : Cx) (pins : List (Addr × Obj)) (σ : L2.St) (vs : List Nat) (elt tg iter : Expr) (ifs : List Expr) (scope : Scope) (pos : Pos) (J : It) (H : Hp) (a : Addr) (s5 : Shared) : Prop :=
  ∃ (s4 : Shared) (it : Addr) (fp : List Addr) (tn : Nat → Heap → Prop) (code : Value) (g : Nat) (go : Obj), Inv X pins σ H s4 ∧ Turn X.prog X.w X.K tg J fp it tn ∧ (∀ b ∈ fp, FpOk X pins H b ∧ b < s4.heap.objs.size) ∧ tn 0 s5.heap ∧
    s5.os = s4.os ∧ AllBare s5.gens ∧ (∀ b o, s4.heap.get? b = some o → s5.heap.get? b = some o) ∧ s4.heap.objs.size < a ∧ a < s5.heap.objs.size ∧ s5.heap.get? a = some go ∧ (∀ h : Heap, h.get? a = some go → h.IsGen a g) ∧ (∀ v, go.data ≠ .cell v) ∧
    s5.gens[g]? = some (.fresh (gStart elt tg iter ifs scope pos it (gEnv X scope s4.heap.objs.size code))) ∧
    ∀ A : Around, A.handled = none → A.frames = some (gEnv X scope s4.heap.objs.size code :: X.stack) → Inv (gx X s4 H A (gEnv X scope s4.heap.objs.size code) fp [(a, go)]) [] (wipe σ vs) H s5

/-- what the making leaves, the code and the builtins known -/
def Laid (X : Cx) (elt tg iter : Expr) (ifs : List Expr) (scope : Scope) (pos : Pos) (it : Addr) (Q' : Value → Shared → Prop) (code : Value) (bi : Addr) (s₄ : Shared) : Prop :=
  ∀ h', h'.Ns s₄.heap.objs.size (fun y => if y = ".0" then some (.ref it) else none) → Heap.SameBut s₄.heap.objs.size (s₄.heap.push { cls := .type "frame", data := .dict #[] }) h' →
    Q' (.ref h'.objs.size) { s₄ with
      gens := s₄.gens.push (.fresh (.compStart (.GeneratorExp elt [⟨tg, iter, ifs, 0⟩] scope pos) 0 (.ref it) .none (genEnv scope (cloFrom X.env.cells scope.names []) s₄.heap.objs.size code bi X.env))),
      toks := s₄.toks + 1 + 1 + 1,
      heap := h'.push { cls := .type "generator", data := .fields #[.int s₄.gens.size 0, .str "<genexpr>" (s₄.toks + 1), .str (X.env.qual ++ "<genexpr>") (s₄.toks + 1 + 1)] } }
section
variable {c P it : Addr} {elt tg iter : Expr} {ifs : List Expr} {pos : Pos} {fp : List Addr} {tn : Nat → Heap → Prop} {J : It} {Q' : Value → Shared → Prop}
/-- the generator's object laid: it is ready -/
theorem rdy_of {s4 : Shared} {h' : Heap} {code nm qn : Value} {tk : Nat} {go : Obj} (I : Inv X pins σ H s4) (ok : BlkOk X.N X.env.scope scope own) (hN : X.N.Nodup) (hcell : ∀ y ∈ scope.names, y.2 ≠ .cell) (T : Turn X.prog X.w X.K tg J fp it tn) (hfp : ∀ b ∈ fp, FpOk X pins H b ∧ b < s4.heap.objs.size)
    (ns : h'.Ns s4.heap.objs.size (fun y => if y = ".0" then some (.ref it) else none)) (hs : Heap.SameBut s4.heap.objs.size (s4.heap.push { cls := .type "frame", data := .dict #[] }) h') (st : tn 0 s4.heap) (hgo : go = { cls := .type "generator", data := .fields #[.int s4.gens.size 0, nm, qn] }) :
    GRdy X pins σ (own.map (·.2)) elt tg iter ifs scope pos J H h'.objs.size { s4 with gens := s4.gens.push (.fresh (gStart elt tg iter ifs scope pos it (gEnv X scope s4.heap.objs.size code))), toks := tk, heap := h'.push go } := by
  have sz : h'.objs.size = s4.heap.objs.size + 1 := hs.1.trans (Heap.size_push ..)
  have kp : ∀ b o, s4.heap.get? b = some o → (h'.push go).get? b = some o := fun b o e => Heap.get?_push_of_some _ (hs.extBut b o (Nat.ne_of_lt (Heap.lt_size e)) (Heap.get?_push_of_some _ e))
  have ba : AllBare (s4.gens.push (.fresh (gStart elt tg iter ifs scope pos it (gEnv X scope s4.heap.objs.size code)))) := AllBare.push I.bare rfl
  have nc : ∀ v, go.data ≠ .cell v := by subst hgo; exact fun v q => nomatch q
  have at1 : (h'.push go).get? h'.objs.size = some go := by subst hgo; exact Heap.get?_push_size _ rfl
  refine ⟨s4, it, fp, tn, code, s4.gens.size, go, I, T, hfp, T.keep _ _ _ st fun b _ o e => kp b o e, rfl, ba, kp, by omega, ?_, at1, fun h e => ⟨go, nm, qn, e, by rw [hgo], by rw [hgo], by rw [hgo]⟩, nc, Array.getElem?_push_size .., fun A hA hF => ?_⟩
  · have : (h'.push go).objs.size = h'.objs.size + 1 := Heap.size_push ..
    show _ < (h'.push go).objs.size
    omega
  · exact gx_start (s5 := { s4 with gens := s4.gens.push (.fresh (gStart elt tg iter ifs scope pos it (gEnv X scope s4.heap.objs.size code))), toks := tk, heap := h'.push go }) I ok hN hcell hfp hA hF rfl ba kp (ns.push _) (by omega) at1 nc
/-- with a table that has grown by some codes -/
theorem laid_of {R : It → Hp → Prop} {s2 : Shared} {H2 : Hp} {ps ps' : Array Value} {code : Value} {h3 : Heap} {tk : Nat} (TB : TabB X.base X.mg c P) (ok : BlkOk X.N X.env.scope scope own) (hN : X.N.Nodup) (hcell : ∀ y ∈ scope.names, y.2 ≠ .cell)
    (I2 : Inv X pins σ H2 s2) (T : Turn X.prog X.w X.K tg J fp it tn) (st2 : tn 0 s2.heap) (f2 : ∀ b ∈ fp, FpOk X pins H2 b) (hP : H2 P = some (.tbl ps)) (q : R J H2)
    (hQ : ∀ J H1 H2 a s5, R J H1 → Tabbed P H1 H2 → GRdy X pins σ (own.map (·.2)) elt tg iter ifs scope pos J H2 a s5 → Q' (.ref a) s5)
    (hx : Heap.ExtBut P s2.heap h3) (hP3 : h3.get? P = some { cls := .none, data := .fields ps' }) (hmore : ∃ more, ps' = ps ++ more) (ht3 : TriplesOk ps'.toList) :
    wpAny (model X.prog X.w) X.A (builtinsFor X.env.globals X.env.builtins) (Laid X elt tg iter ifs scope pos it Q' code) X.xe { s2 with heap := h3, toks := tk } := by
  obtain ⟨more, rfl⟩ := hmore
  have I3 : Inv X pins σ (upd H2 P (.tbl (ps ++ more))) { s2 with heap := h3, toks := tk } :=
    inv_tab (more := more) (h' := h3) (g' := s2.gens) (d' := s2.drawn) (t' := tk) I2 hP (fun b u hb e => hx b u hb e) hP3 I2.bare
  have notP : ∀ b ∈ fp, b ≠ P := fun b hb z => by
    have := (f2 b hb).1
    rw [z, hP] at this
    cases this
  obtain ⟨bm, ob, t1, t2, t3, t4, t5, t6, t7, t8⟩ := TB.bm
  refine wpAny_builtinsFor (m := X.mg) (by rw [I3.ok.glob]; exact I3.mod.glob.keeps I3.bk) t1 t2 (I3.bk _ _ t5) t6 t7 t8 ?_
  intro h' ns hs
  refine hQ J H2 (upd H2 P (.tbl (ps ++ more))) _ _ q ⟨⟨ps ++ more, upd_same, ht3⟩, fun b hb => upd_ne hb⟩ ?_
  refine rdy_of I3 ok hN hcell T (fun b hb => ⟨⟨(upd_ne (notP b hb)).trans (f2 b hb).1, (f2 b hb).2⟩, ?_⟩) ns hs (T.keep _ _ _ st2 fun b hb o e => hx b o (notP b hb) e) rfl
  have ho := (T.obj _ _ st2 b hb).choose_spec.1
  exact Heap.lt_size (hx b _ (notP b hb) ho)
theorem gen_rdy {wi : TI} {k : Nat} {R : It → Hp → Prop}
    (hr : Room k X.A) (TB : TabB X.base X.mg c P) (hcode : X.env.code = .ref c) (ok : BlkOk X.N X.env.scope scope own) (hN : X.N.Nodup) (hco : scope.isCoroutine = false) (hcell : ∀ y ∈ scope.names, y.2 ≠ .cell) (hdot : scope.names.lookup (".0" : Str) = some NameKind.local)
    (hi : PI X tg iter wi) (hs : ∀ v, genFold iter X.env v = pure v) (I : Inv X pins σ H s) (h : wi σ H fun J H1 => TabG H1 P ∧ R J H1)
    (hQ : ∀ J H1 H2 a s5, R J H1 → Tabbed P H1 H2 → GRdy X pins σ (own.map (·.2)) elt tg iter ifs scope pos J H2 a s5 → Q' (.ref a) s5) :
    wpAny (model X.prog X.w) X.A (eval (.GeneratorExp elt [⟨tg, iter, ifs, 0⟩] scope pos) X.env) Q' X.xe s := by
  have room : X.A.depth < recursionLimit := by
    have := hr.dp
    omega
  refine wpAny_GeneratorExp_make hco (closure_ok (free_cell I ok)) hcell hdot ok.kind room (thn (hi.run pins s σ H _ I h) fun xv s1 h1 => thn h1 fun itv s2 h2 => ?_) hs
  obtain ⟨it, fp, tn, J, H2, rfl, I2, T, st2, f2, hT, q⟩ := h2
  obtain ⟨ps, hP, ht⟩ := hT
  have hPs : s2.heap.get? P = some { cls := .none, data := .fields ps } := I2.hok P _ hP
  have cd : PySem.W.CodeHd s2.heap c P := TB.code.keeps fun b u e => I2.bk b u e
  refine ⟨I2.nolimit, ?_⟩
  cases hf : codeAmong pos ps.toList with
  | some cv =>
    exact wpAny_genexprCode_hit hcode (cd.code hPs ht) hf (laid_of (s2 := s2) (h3 := s2.heap) (tk := s2.toks) (ps' := ps) TB ok hN hcell I2 T st2 f2 hP q hQ (Heap.ExtBut.refl _ _) hPs ⟨#[], by simp⟩ ht)
  | none =>
    refine wpAny_genexprCodeX hcode (cd.code hPs ht) (cd.tab hPs) hf fun c' h' tk hx hge hlt hco' _ htab' _ => ?_
    obtain ⟨_, _, _, _, _, _, _, _, _, _, _, _, _, _, _, _, _, _, _, tri, _⟩ := hco'
    exact laid_of TB ok hN hcell I2 T st2 f2 hP q hQ hx htab'.2 ⟨_, rfl⟩ tri
end
end
end G

namespace G
open PySem L2 GenW GxR
open PySem.Spec PyProof.Rows
/-- nothing is changed while the generator sleeps -/
structure Nap (s s' : Shared) : Prop where
  os : s'.os = s.os
  bare : AllBare s'.gens
  keep : ∀ b o, s.heap.get? b = some o → s'.heap.get? b = some o
section
variable {X : Cx} {fp : List Addr} {a : Addr} {g : Nat} {go : Obj}
/-- a loop that goes on while its items' truth is w: all's (w = true), any's (w = false) -/
structure Lp (nm : String) (w : Bool) : Prop where
  quiet : ∀ args : Args, (Code.builtin nm args).quiet = true
  run : ∀ {P : Program} {W : World} {A : Around} {a : Addr} {s : Shared} {R : Result → Shared → Prop}, wpAny (model P W) A.in1 (pyNext (.ref a)) (fun o s' => match o with
    | none => R (.ok (.ret (.bool w))) s'
    | some v => ∃ b, (∀ {B : Around} {Q : Bool → Shared → Prop} {E : Value → Shared → Prop}, Q b s' → wpAny (model P W) B (truthy v) Q E s') ∧ ((b = w ∧ codeAny (model P W) A (.builtin nm ⟨[.ref a], []⟩) R s') ∨ (b = !w ∧ R (.ok (.ret (.bool (!w)))) s'))) (fun _ _ => False) s →
    codeAny (model P W) A (.builtin nm ⟨[.ref a], []⟩) R s
end
end G

namespace G
open PySem L2 GenW GxR
open PySem.Spec PyProof.Rows
section
variable {X : Cx} {pins : List (Addr × Obj)} {σ : L2.St} {H : Hp} {s4 : Shared}
/-- back in the def's context -/
theorem back {fp : List Addr} {A : Around} {env : Env} {pn pins' : List (Addr × Obj)} {σ' : L2.St} {H' : Hp} {s1 s' : Shared} (I4 : Inv X pins σ H s4) (hfp : ∀ b ∈ fp, FpOk X pins H b ∧ b < s4.heap.objs.size)
    (I : Inv (gx X s4 H A env fp pn) pins' σ' H' s1) (n : Nap s1 s') : Inv X pins σ H' s' :=
  I4.call' (ch := fp) (n.os.trans I.os) (I.base.trans (Un.kept n.keep)) (I.hok.kept n.keep) n.bare fun b hb => ⟨(hfp b hb).1.2.2.2.1, (hfp b hb).1.2.1, (hfp b hb).1.2.2.2.2.1, (hfp b hb).1.2.2.2.2.2⟩
theorem wipe_mono {vs : List Nat} {σ' σ0 : L2.St} (h : wipe σ' vs = σ0) (i : Nat) (v : V) (e : σ0[i]? = some (some v)) : σ'[i]? = some (some v) := by
  rw [← h] at e
  exact (wipe_some e).1
end
/-- for a list: all items -/
def tGl (P : Addr) (wi : TI) (g : TG) (tt : TT) (te : TE) (vs : List Nat) : TGen := fun σ H cont => wi σ H fun J H1 => TabG H1 P ∧ ∀ H2, Tabbed P H1 H2 →
  ∃ W : Nat → Nat → List V → Hp → Prop, (∃ m, W 0 m [] H2) ∧ GTurns J g tt te (fun _ => some false) (wipe σ vs) vs W cont fun _ => False
section
variable {X : Cx} {c P : Addr} {elt tg iter : Expr} {ifs : List Expr} {scope : Scope} {own : List (Str × Nat)} {pos p cpos : Pos} {wi : TI} {g : TG} {tt : TT} {te : TE} {k : Nat}
/-- what is asked of a generator expression -/
structure GxOk (X : Cx) (c P : Addr) (elt tg iter : Expr) (ifs : List Expr) (scope : Scope) (own : List (Str × Nat)) (wi : TI) (g : TG) (tt : TT) (te : TE) (k : Nat) : Prop where
  TB : TabB X.base X.mg c P
  code : X.env.code = .ref c
  ok : BlkOk X.N X.env.scope scope own
  nd : X.N.Nodup
  (co : scope.isCoroutine = false) (cell : ∀ y ∈ scope.names, y.2 ≠ .cell) (dot : scope.names.lookup (".0" : Str) = some NameKind.local)
  calm : X.calm = true
  pi : PI X tg iter wi
  pg : ∀ (s : Shared) (H : Hp) (A : Around) (C : Addr) (code : Value) (fp : List Addr) (pn : List (Addr × Obj)), Room k A → PG (gx X s H A (gEnv X scope C code) fp pn) tg g
  pt : ∀ (s : Shared) (H : Hp) (A : Around) (C : Addr) (code : Value) (fp : List Addr) (pn : List (Addr × Obj)), Room k A → PTs (gx X s H A (gEnv X scope C code) fp pn) ifs tt
  pe : ∀ (s : Shared) (H : Hp) (A : Around) (C : Addr) (code : Value) (fp : List Addr) (pn : List (Addr × Obj)), Room k A → PE (gx X s H A (gEnv X scope C code) fp pn) elt te
  hs : ∀ v, genFold iter X.env v = pure v

/-- the frame keeps what the loop asks -/
theorem GxOk.loop (gk : GxOk X c P elt tg iter ifs scope own wi g tt te k) {pins : List (Addr × Obj)} {σ : L2.St} {H : Hp} {s4 : Shared} {it a : Addr} {fp : List Addr} {tn : Nat → Heap → Prop} {J : It} {code : Value} {go : Obj} {A : Around}
    (I4 : Inv X pins σ H s4) (T : Turn X.prog X.w X.K tg J fp it tn) (hfp : ∀ b ∈ fp, FpOk X pins H b ∧ b < s4.heap.objs.size) (ha : s4.heap.objs.size < a) (hr : Room k (A.deeper (gEnv X scope s4.heap.objs.size code))) :
    LpOk A (gx X s4 H (A.deeper (gEnv X scope s4.heap.objs.size code)) (gEnv X scope s4.heap.objs.size code) fp [(a, go)]) fp elt tg iter ifs it tn J g tt te (wipe σ (own.map (·.2))) (own.map (·.2)) where
  noX := fun _ _ z => z
  ov := rfl
  calm := gk.calm
  ex := rfl
  pn := fun q hq hb => by
    rw [List.mem_singleton.mp hq] at hb
    exact Nat.lt_asymm ha (hfp a hb).2
  co := gk.co
  tu := T
  pg := gk.pg _ _ _ _ _ _ _ hr
  pt := gk.pt _ _ _ _ _ _ _ hr
  pe := gk.pe _ _ _ _ _ _ _ hr
  wp := fun _ e => wipe_mono e
  len := (wipe_length ..).trans I4.len
/-- a first turn's Seg -/
theorem seg_first {pins : List (Addr × Obj)} {σ : L2.St} {H : Hp} {s4 s6 : Shared} {it a : Addr} {fp : List Addr} {tn : Nat → Heap → Prop} {J : It} {code : Value} {go : Obj} {A : Around} {stp : V → Option Bool} {W : Nat → Nat → List V → Hp → Prop} {fin : List V → Hp → Prop} {cut : Hp → Prop} {m : Nat}
    (gk : GxOk X c P elt tg iter ifs scope own wi g tt te k) (I4 : Inv X pins σ H s4) (T : Turn X.prog X.w X.K tg J fp it tn) (hfp : ∀ b ∈ fp, FpOk X pins H b ∧ b < s4.heap.objs.size) (ha : s4.heap.objs.size < a) (hr : Room (k + 1) A)
    (Cn : Con (gx X s4 H (A.deeper (gEnv X scope s4.heap.objs.size code)) (gEnv X scope s4.heap.objs.size code) fp [(a, go)]) fp) (st : tn 0 s6.heap) (w : W 0 m [] H)
    (h6 : ∃ pins', Cn.CP [] pins' ∧ Inv (gx X s4 H (A.deeper (gEnv X scope s4.heap.objs.size code)) (gEnv X scope s4.heap.objs.size code) fp [(a, go)]) pins' (wipe σ (own.map (·.2))) H s6)
    (tr : GTurns J g tt te stp (wipe σ (own.map (·.2))) (own.map (·.2)) W fin cut) :
    Seg (model X.prog X.w) A (RG Cn fin) (YG Cn stp cut) sizeLine s6 (gStart elt tg iter ifs scope pos it (gEnv X scope s4.heap.objs.size code)) ((model X.prog X.w).den (gStart elt tg iter ifs scope pos it (gEnv X scope s4.heap.objs.size code))) [] s6 := by
  obtain ⟨pins', hcp, I6⟩ := h6
  exact seg_gstart (K := X.K) T st (seg_gloop (gk.loop I4 T hfp ha (hr.deeper _)) tr m 0 sizeLine [] s6 s6 ⟨Nat.add_zero _, pins', H, hcp, I6, st, fun b hb => (hfp b hb).1.1, w⟩)

section
variable {prog : Program} {W : World} {A : Around} {E : Value → Shared → Prop} {s : Shared} {a : Addr} {gn : Nat} {Q : Value → Shared → Prop}
end
/-! ### into a list -/
def ConL (X : Cx) (fp : List Addr) (S : Addr) (hS : S ∉ fp) (hpn : ∀ p ∈ X.pn, p.1 ≠ S) (hA : Apart X S) : Con X fp where
  CP := fun acc pins => ∃ (accv : Array Value) (c : Nat), pins = [(S, lstObj accv c)] ∧ Vals acc accv.toList
  Wk := fun v s s' => Slept S v s s'
  nfp := fun _ pins h p hp => by
    obtain ⟨accv, c, rfl, _⟩ := h
    have hp' : p = (S, lstObj accv c) := by simpa using hp
    subst hp'
    exact hS
  ok := fun acc y v pins σ H s s' hcp rv I z => by
    obtain ⟨accv, c, rfl, r⟩ := hcp
    have hG : GI X S [] acc σ H s := ⟨accv, c, r, I⟩
    obtain ⟨accv', c', r', I'⟩ := hG.woken hpn (fun p hp => absurd hp (by simp)) hA rv z
    exact ⟨_, ⟨accv', c', rfl, r'⟩, I', fun b hb o e => z.keep b o (fun q => hS (q ▸ hb)) e⟩
theorem pgen_gx {E : XK} (gk : GxOk X c P elt tg iter ifs scope own wi g tt te k) (hr : Room (k + 1) X.A) : PGen X (k + 1) (.GeneratorExp elt [⟨tg, iter, ifs, 0⟩] scope pos) (tGl P wi g tt te (own.map (·.2))) E := by
  constructor
  intro pins s σ H cont I h
  refine gen_rdy hr gk.TB gk.code gk.ok gk.nd gk.co gk.cell gk.dot gk.pi gk.hs I h fun J H1 H2 a s5 hR hT hG => ?_
  obtain ⟨W, ⟨m0, w0⟩, tr⟩ := hR H2 hT
  obtain ⟨s4, it, fp, tn, code, gn, go, I4, T, hfp, st5, os5, ba5, kp5, ha1, ha2, hgo, hig, hgc, hgs, mkI⟩ := hG
  refine ⟨H2, s4, fp, I4, fun b hb => ⟨(hfp b hb).1.2.2.2.1, (hfp b hb).1.2.1, (hfp b hb).1.2.2.2.2.1, (hfp b hb).1.2.2.2.2.2⟩, a, gn, _, rfl, Nat.le_of_lt ha1, ha2, hig _ hgo, hgs, os5, ba5, I4.nolimit.keeps kp5, kp5, ?_⟩
  intro Aw S s2 hrw hfr hS kp2 hSo hos hba
  obtain ⟨cS, heS⟩ := hSo
  have I5 := mkI (Aw.deeper (gEnv X scope s4.heap.objs.size code)) hrw.hd (Around.frames_deeper hfr)
  have I2 : Inv (gx X s4 H2 (Aw.deeper (gEnv X scope s4.heap.objs.size code)) (gEnv X scope s4.heap.objs.size code) fp [(a, go)]) [] (wipe σ (own.map (·.2))) H2 s2 :=
    I5.call' (ch := []) (hos.trans os5.symm) (Un.kept kp2) (I5.hok.kept kp2) hba fun b z => absurd z (by simp)
  have hSa : a < S := Nat.lt_of_lt_of_le ha2 hS
  have hSfp : S ∉ fp := fun hb => absurd (Nat.lt_trans (Nat.lt_trans ha1 hSa) (hfp S hb).2) (Nat.lt_irrefl _)
  have hSpn : ∀ p ∈ [(a, go)], p.1 ≠ S := fun p hp => by
    rw [List.mem_singleton.mp hp]
    exact Nat.ne_of_lt hSa
  have hAp : Apart (gx X s4 H2 (Aw.deeper (gEnv X scope s4.heap.objs.size code)) (gEnv X scope s4.heap.objs.size code) fp [(a, go)]) S := by
    refine ⟨Nat.le_of_lt (Nat.lt_trans ha1 hSa), Nat.ne_of_gt (Nat.lt_trans ha1 hSa), fun x c' e z => ?_⟩
    obtain ⟨v, o, ho, _⟩ := I5.cell x c' e
    have := Heap.lt_size ho
    rw [z] at this
    exact absurd (Nat.lt_of_lt_of_le this hS) (Nat.lt_irrefl _)
  have I3 : Inv (gx X s4 H2 (Aw.deeper (gEnv X scope s4.heap.objs.size code)) (gEnv X scope s4.heap.objs.size code) fp [(a, go)]) [(S, lstObj #[] cS)] (wipe σ (own.map (·.2))) H2 s2 := I2.pins_of fun p hp => by
    rw [List.mem_singleton.mp hp]
    refine ⟨heS, I4.hok.fresh (Nat.le_of_lt (Nat.lt_trans ha1 hSa)), hAp.2.1, fun hb => ?_, fun v q => by cases q⟩
    exact I5.nofs hS hb
  refine seg_imp (R := RG (ConL _ fp S hSfp hSpn hAp) cont) (Y := YG (ConL _ fp S hSfp hSpn hAp) (fun _ => some false) fun _ => False) (fun n s₀ r s1 hR => ?_) (fun n s₀ v s1 kap kap' hkk hY => ?_) sizeLine
    (seg_first (pos := pos) (A := Aw) gk I4 T hfp ha1 hrw _ (T.keep _ _ _ st5 fun b hb o e => kp2 b o e) w0 ⟨_, ⟨#[], cS, rfl, .nil⟩, I3⟩ tr)
  · obtain ⟨hr', acc, pins', σ', H', hn, ⟨accv, cc, rfl, rv⟩, I1, q⟩ := hR
    obtain ⟨e1, e2, _⟩ := I1.pin (S, lstObj accv cc) (List.mem_append_right _ List.mem_cons_self)
    exact .inl ⟨.inr hr', H', acc, accv, cc, I1.os, I1.bare, I1.base, I1.hok, e2, e1, rv, by omega, q⟩
  · obtain ⟨acc, pins', y, σ', H', hn, ry, ⟨accv, cc, rfl, rv⟩, I1, alt⟩ := hY
    obtain ⟨e1, e2, _⟩ := I1.pin (S, lstObj accv cc) (List.mem_append_right _ List.mem_cons_self)
    rcases alt with ⟨_, hk⟩ | ⟨hs, _⟩
    · have hsz : accv.size = acc.length := by
        have e1 := rv.length
        have e2 : accv.toList.length = accv.size := by simp
        omega
      exact ⟨I1.os, I1.bare, I1.nolimit, hig _ (I1.pin (a, go) (List.mem_append_left _ List.mem_cons_self)).1, ⟨accv, cc, e1, by rw [hsz]; exact hn⟩, fun s' z => hkk _ _ (hk s' z)⟩
    · cases hs
end
end G

namespace G
open PySem L2 GenW GxR
open PySem.Spec PyProof.Rows
section
variable {P : Program} {w : World} {A : Around} {E : Value → Shared → Prop} {s : Shared} {a S : Addr} {g : Nat}
/-! ### a new list, and a generator's items into it -/
theorem touch_empty {c : Nat} {Q : Unit → Shared → Prop} (hS : s.heap.get? S = some (lstObj #[] c)) (h : ∀ h' : Heap, (∀ b o, b ≠ S → s.heap.get? b = some o → h'.get? b = some o) → (∃ c, h'.get? S = some (lstObj #[] c)) → Q () { s with heap := h' }) :
    wpAny (model P w) A (Builtin.List.listTouch (.ref S)) Q E s := by
  have one := Heap.get?_update_self (Obj.mapSeq (·.push Value.none)) hS rfl
  refine wpAny_bind (m := updateSeq S (·.push .none)) (wpAny_updateSeq hS rfl (wpAny_updateSeq (hz := by seq_fits) one rfl (h _ ?_ ⟨_, Heap.get?_update_self (Obj.mapSeq (·.pop)) one rfl⟩)))
  exact fun b o hb e => (Heap.get?_update_other _ _ (Ne.symm hb)).trans ((Heap.get?_update_other _ _ (Ne.symm hb)).trans e)
theorem hint_gen {Q : Bool → Shared → Prop} (hg : s.heap.IsGen a g) (h : Q true s) : wpAny (model P w) A (Builtin.List.listLengthHint (.ref a)) Q E s := by
  have ty : s.TypeIs (.ref a) "generator" := Heap.IsGen.typeIs hg
  refine wpAny_bind (m := specialOf (.ref a) "__len__") (wpAny_specialOf ty PySem.F.gen_no_len ?_)
  exact wpAny_bind (m := specialOf (.ref a) "__length_hint__") (wpAny_specialOf ty PySem.F.gen_no_hint (wpAny_pure h))
theorem extend_gen {c : Nat} {R : Result → Shared → Prop} (hSa : S ≠ a) (hS : s.heap.get? S = some (lstObj #[] c)) (hg : s.heap.IsGen a g)
    (h : ∀ h' : Heap, (∀ b o, b ≠ S → s.heap.get? b = some o → h'.get? b = some o) → (∃ c, h'.get? S = some (lstObj #[] c)) → codeAny (model P w) A (.builtin "list.extend.loop" ⟨[.ref S, .ref a, .ref S], []⟩) R { s with heap := h' }) :
    wpAny (model P w) A.in1 (Builtin.List.listExtendWith (.ref S) (.ref a) (.ref S)) (fun fin s' => match fin with
      | .done f => R (.ok f) s'
      | .again c' => c'.quiet = true ∧ codeAny (model P w) A c' R s') E s := by
  have no : (Builtin.List.listSameRef (.ref S) (.ref a) || Value.type "generator" == Value.type "list" || Value.type "generator" == Value.type "tuple") = false := by
    rw [show Builtin.List.listSameRef (.ref S) (.ref a) = false by simp [Builtin.List.listSameRef, hSa]]
    decide
  rw [Builtin.List.listExtendWith]
  refine wpAny_bind (wpAny_typeOf (Heap.IsGen.typeIs hg) ?_)
  rw [no, if_neg (by decide)]
  refine wpAny_bind (wpAny_pyIter_gen hg (wpAny_bind (wpAny_holding (hint_gen hg ?_))))
  rw [Bool.true_or, if_pos rfl]
  exact wpAny_bind (wpAny_rule (wpAny_bind (touch_empty hS fun h' k hc => wpAny_pure ⟨plainId_quiet PySem.F.plain_extend_loop _, h h' k hc⟩)))
theorem code_collect {R : Result → Shared → Prop} (ha : a < s.heap.objs.size) (hg : s.heap.IsGen a g)
    (h : ∀ h' : Heap, (∀ b o, s.heap.get? b = some o → h'.get? b = some o) → (∃ c, h'.get? s.heap.objs.size = some (lstObj #[] c)) → codeAny (model P w) A (.builtin "list.extend.loop" ⟨[.ref s.heap.objs.size, .ref a, .ref s.heap.objs.size], []⟩) R { s with heap := h' }) :
    codeAny (model P w) A (.builtin "proto.collect" ⟨[.ref a], []⟩) R s := by
  have kp : ∀ b o, s.heap.get? b = some o → (s.heap.push (lstObj #[] 0)).get? b = some o := fun b o e => Heap.get?_push_of_some _ e
  have ext := extend_gen (P := P) (w := w) (A := A) (E := fun e s' => R (.error e) s') (R := R) (S := s.heap.objs.size) (g := g) (c := 0) (s := { s with heap := s.heap.push (lstObj #[] 0) }) (Nat.ne_of_gt ha) (Heap.get?_push_size _ rfl) (hg.keeps kp) fun h' k' hc' =>
    h h' (fun b o e => k' b o (Nat.ne_of_lt (Heap.lt_size e)) (kp b o e)) hc'
  refine codeAny_builtin PySem.F.entry_proto_collect ?_
  rw [Around.under_plainId PySem.F.plain_proto_collect, Builtin.«proto.collect»]
  refine wpAny_bind (m := newList []) (wpAny_newObj_type (wpAny_pure ⟨plainId_quiet PySem.F.plain_list_iadd _, codeAny_builtin PySem.F.entry_list_iadd ?_⟩))
  rw [Around.under_plainId PySem.F.plain_list_iadd]
  exact ext
end
section
variable {P : Program} {w : World} {outer : List Env} {H : Hp} {sc s : Shared} {ex : List Addr} {Q : List V → Hp → Prop} {EX : XK} {A : Around} {k : Nat} {a : Addr} {E : Value → Shared → Prop}
theorem wpAny_collect_new {Q' : List Value → Shared → Prop} (hr : Room (k + 3) A) (hfr : A.frames = some outer) (h : GMade P w k outer H sc ex Q EX (.ref a) s)
    (hQ : ∀ (s' : Shared) (acc : Array Value) (H' : Hp) (ys : List V), Vals ys acc.toList → ys.length ≤ sizeLine → s'.os = sc.os → AllBare s'.gens → Un (frs outer) ex H H' sc.heap s'.heap → HOk P w H' s'.heap → Q ys H' → Q' acc.toList s')
    (hexc : ∀ e s', CX P w outer H sc EX e s' → False) : wpAny (model P w) A (collect (.ref a)) Q' E s := by
  obtain ⟨a', g, c, ea, -, ha, hg, hgs, hos, hb, hl, -, wake⟩ := h
  obtain rfl : a = a' := Value.ref.inj ea
  have neA : s.heap.objs.size ≠ a := Nat.ne_of_gt ha
  have neC : s.heap.objs.size ≠ cStatics := Nat.ne_of_gt (let ⟨_, q, _⟩ := hl; q.lt)
  refine wpAny_bind (wpAny_runValue (code_collect ha hg fun h' kp' hc' => ?_))
  refine drain (P := P) (w := w) (outer := outer) (H := H) (sc := sc) (ex := ex) (Q := Q) (EX := EX) (A := A) (g := g) hr.hd hr.depth neA neC
    (fun s' acc c H' ys q1 q2 q3 q4 q5 q6 q7 q8 q9 => by
      show wpAny _ _ (load _ >>= _) _ _ _
      exact wpAny_bind (wpAny_load q1 (wpAny_pure (hQ s' acc H' ys q2 q3 q4 q5 q6 q7 q9)))) (fun e s' hc => (hexc e s' hc).elim)
    sizeLine _ (hg.keeps kp') (hl.keeps kp') ⟨_, hgs, rfl, wake _ _ _ ⟨hr.hd, ?_, ?_⟩ hfr (Nat.le_refl _) kp' hc' hos (allBare_setGen (s := { s with heap := h' }) hb rfl)⟩
  · have := hr.dp
    show A.depth + 3 * k + 5 < _
    omega
  · have := hr.un
    show A.units + 1 + 1 + 16 * k + 200 < _
    omega
theorem code_tuple_newG {Q₁ : Value → Shared → Prop} (hr : Room (k + 5) A) (hfr : A.frames = some outer) (h : GMade P w k outer H sc ex Q EX (.ref a) s)
    (hQ : ∀ (s' : Shared) (acc : Array Value) (H' : Hp) (ys : List V), Vals ys acc.toList → ys.length ≤ sizeLine → s'.os = sc.os → AllBare s'.gens → Un (frs outer) ex H H' sc.heap s'.heap → HOk P w H' s'.heap → Q ys H' → Q₁ (.ref s'.heap.objs.size) { s' with heap := s'.heap.push { cls := .type "tuple", data := .seq acc } })
    (hexc : ∀ e s', CX P w outer H sc EX e s' → False) :
    codeAny (model P w) A (.call (.builtin "tuple.__new__") ⟨[.type "tuple", .ref a], []⟩) (wants Q₁ E) s := by
  have isg : ∃ g, s.heap.IsGen a g := by
    obtain ⟨a', g, _, ea, _, _, hg, _⟩ := id h
    obtain rfl : a = a' := Value.ref.inj ea
    exact ⟨g, hg⟩
  have ty : s.TypeIs (.ref a) "generator" := Heap.IsGen.typeIs isg.choose_spec
  refine codeAny_of_tree (wpAny_bind (m := checkBuiltinCall "tuple.__new__" ⟨[.type "tuple", .ref a], []⟩) (wpAny_of_eq (PySem.F.newCall_tuple_1 _) (wpAny_pure ⟨plainId_quiet PySem.F.plain_tuple_new _, codeAny_builtin PySem.F.entry_tuple_new ?_⟩)))
  rw [Around.under_plainId PySem.F.plain_tuple_new]
  have f1 := sub_tuple_self
  have f2 := init_tuple_lookup
  have f3 := madeHere_tuple
  have room : Room (k + 3) A.in1 := Room.in1 (k := k + 3) (hr.mono (by omega))
  have f4 := fun (Q' : List Value → Shared → Prop) (E' : Value → Shared → Prop) hQ' => wpAny_collect_new (E := E') (Q' := Q') room hfr h hQ' hexc
  wp_walk using wpAny_typeOf ty, f4
  intro s' acc H' ys q1 q2 q3 q4 q5 q6 q7
  have same : acc.toList.toArray = acc := Array.toArray_toList
  have fits : acc.size ≤ sizeLine := by
    have : acc.toList.length = acc.size := Array.length_toList
    have := q1.length
    omega
  rw [same]
  exact wpAny_bind (m := Builtin.Tuple.tupleExact acc) (wpAny_newObj_type (wpAny_pure (hQ s' acc H' ys q1 q2 q3 q4 q5 q6 q7)) fits)
theorem call_tuple_newG {Q' : Value → Shared → Prop} (hr : Room (k + 6) A) (hfr : A.frames = some outer) (h : GMade P w k outer H sc ex Q EX (.ref a) s)
    (hQ : ∀ (s' : Shared) (acc : Array Value) (H' : Hp) (ys : List V), Vals ys acc.toList → ys.length ≤ sizeLine → s'.os = sc.os → AllBare s'.gens → Un (frs outer) ex H H' sc.heap s'.heap → HOk P w H' s'.heap → Q ys H' → Q' (.ref s'.heap.objs.size) { s' with heap := s'.heap.push { cls := .type "tuple", data := .seq acc } })
    (hexc : ∀ e s', CX P w outer H sc EX e s' → False) : wpAny (model P w) A (call (.type "tuple") [.ref a]) Q' E s := by
  refine callType_codes (Q₁ := fun obj s₁ => s₁.TypeIs obj "tuple" ∧ Q' obj s₁) PySem.F.called_tuple (PySem.F.typeCall_tuple_1 _) PySem.F.entry_object_init
    (code_tuple_newG (A := A.in1) (Room.in1 (k := k + 5) hr) hfr h (fun s' acc H' ys q1 q2 q3 q4 q5 q6 q7 => ⟨⟨_, Heap.get?_push_size _ rfl, rfl⟩, hQ s' acc H' ys q1 q2 q3 q4 q5 q6 q7⟩) hexc) fun obj s₁ h₁ => ?_
  exact ⟨h₁.1, PySem.F.args_object_init_2 obj _, object_init_meets PySem.F.called_tuple.init.lookup PySem.F.called_tuple.made (by decide) P w A.in1 _ s₁ ⟨h₁.1, rfl, h₁.2⟩⟩
end
section
variable {X : Cx} {k : Nat} {e : Expr} {tg : TGen} {p cpos : Pos}
def tTupG (tg : TGen) : TE := fun σ H Q => tg σ H fun out H2 => ∀ p, H2 p = none → Q (.ref p) (upd H2 p (.tup out))
/-- a type called by its name with one value -/
theorem pe_type1 {nm : Str} {T : String} {t : TE} (hg : Gl X nm) (hm : X.mg nm = none) (hb : bootBuiltins nm = some (.type T)) (hn : nm ≠ "__name__") (hd : (nm == ("__debug__" : Str)) = false) (he : starEach [e] X.env = (false, eval e X.env) :: starEach [] X.env)
    (run : ∀ (pins : List (Addr × Obj)) (σ : L2.St) (H : Hp) (s : Shared) (Q : VK), Inv X pins σ H s → t σ H Q → wpAny (model X.prog X.w) X.A (eval e X.env) (fun v s1 => wpAny (model X.prog X.w) X.A (call (.type T) [v]) (EP X pins σ Q) X.xe s1) X.xe s) :
    PE X (.Call (.Name nm p) [e] [] cpos) t where
  run := fun pins s σ H Q I h => wpAny_Call_Name_kw (ld_blt I hg hm hb (hn := hn) (hd := hd) (PyProof.Rows.callWith_type1 (by
    rw [he]
    exact Calls.spliced_cons (wpAny_mono (run pins σ H s Q I h) (fun _ _ q => Calls.spliced_nil q) fun _ _ q => q)) he rfl))
/-- tuple(g) -/
theorem pe_tupleG (h : PGen X k e tg (fun _ _ _ => False)) (hr : Room (k + 6) X.A) (hg : Gl X "tuple") (hm : X.mg "tuple" = none) (hv : bootBuiltins "tuple" = some (.type "tuple"))
    (he : starEach [e] X.env = (false, eval e X.env) :: starEach [] X.env := by rfl) : PE X (.Call (.Name "tuple" p) [e] [] cpos) (tTupG tg) :=
  pe_type1 hg hm hv (by decide) (by decide) he fun pins σ H s Q I hq => thn (h.run pins s σ H _ I hq) fun u s1 hu => by
    obtain ⟨H1, sc, ex, I1, hex, hG⟩ := hu
    obtain ⟨a, _, _, rfl, _⟩ := id hG
    refine call_tuple_newG hr I1.ok.frames hG (fun s' acc H' ys q1 q2 q3 q4 q5 q6 q7 => ?_) fun e s' hc => ?_
    · have I2 : Inv X pins σ H' s' := I1.call' (ch := ex) q3 q5 q6 q4 hex
      have new : H' s'.heap.objs.size = none := I2.hok.fresh (Nat.le_refl _)
      refine ⟨.ref s'.heap.objs.size, upd H' s'.heap.objs.size (.tup ys), I2.laid (t' := s'.toks) (fun b u e => Heap.get?_push_of_some _ e) (Nat.le_refl _) ?_, rfl, q7 _ new⟩
      exact ⟨q2, acc.toList, q1, ⟨_, Heap.get?_push_size _ rfl, rfl, 0, by simp⟩⟩
    · obtain ⟨_, _, _, _, _, _, _, _, _, _, _, _, z⟩ := hc
      exact z
end
end G

namespace Z
open PySem L2 G
open PySem.Spec PyProof.Rows
variable [Tabs]

/-! ### generator expressions -/
def dtru : D → Option Bool
  | .bl b => some b
  | .int i => some (i != 0)
  | .non => some false
  | _ => none
/-- all (pol true), any (pol false) -/
noncomputable def qA (pol : Bool) (s : Src) (g : GM) (ft : EM Bool) (fe : EM D) (env : En) : List D → Nat → Sto → Rs Bool
  | [], k, S => if s.okAt S = true then .ok pol S else .stk
  | d :: ds, k, S => if s.okAt S = true then (match g d env with
      | some env1 => (ft env1 S).nox.bnd fun b S1 => if b = true then (fe env1 S1).nox.bnd fun y S2 => if k < bigN then (match dtru y with
          | some t => if t = pol then qA pol s g ft fe env ds (k + 1) S2 else .ok (!pol) S2
          | none => .stk) else .stk else qA pol s g ft fe env ds k S1
      | none => .stk) else .stk
noncomputable def zQG (pol : Bool) (vs : List Nat) (fi : EI) (g : GM) (ft : EM Bool) (fe : EM D) : EM D := fun env S => (fi env S).bnd fun s S1 => (qA pol s g ft fe (wipeE env vs) s.items 0 S1).bnd fun b S2 => .ok (.bl b) S2
noncomputable def zTG (vs : List Nat) (fi : EI) (g : GM) (ft : EM Bool) (fe : EM D) : EM D := fun env S => (fi env S).bnd fun s S1 => (lcA s g ft fe (wipeE env vs) s.items [] S1).bnd fun acc S2 => .ok (.tup acc) S2
section
variable {K : PySem.W.Frag} {mg : Mg} {t : TG} {sl : List Nat} {g : GM} {tt : TT} {ft : EM Bool} {te : TE} {fe : EM D}
theorem lcA_turns {α β : Type} {rel : Hp → List Addr → α → β → Prop} {w : WS} {Q : β → Hp → Prop} {s : Src} {J : It} {m1 : List Addr} {Hc1 H1 : Hp} {S1 : Sto} {fr : List (Addr × HO)} {env : En} {σ : L2.St} {vs : List Nat} {k : List D → Sto → Rs α} {fin : List V → Hp → Prop}
    (hg : SG K t sl g) (hsl : ∀ i ∈ sl, i ∈ vs) (ht : ST K mg W0 tt ft) (he : SE K mg W0 te fe) (r1 : ItO K m1 Hc1 J s) (z1 : Zh K fr m1 Hc1 S1 H1) (zz : Ze K Hc1 m1 env (L2.wipe σ vs))
    (p : Pst K mg fr rel m1 Hc1 w Q ((lcA s g ft fe env s.items [] S1).bnd k))
    (hfin : ∀ H' m2 Hc2 S2 acc accv, Ex m1 Hc1 m2 Hc2 → Zh K fr m2 Hc2 S2 H' → Reps K Hc2 m2 acc accv → Pst K mg fr rel m2 Hc2 w Q (k acc S2) → fin accv H') :
    ∃ W : Nat → Nat → List V → Hp → Prop, (∃ m, W 0 m [] H1) ∧ GTurns J t tt te (fun _ => some false) (L2.wipe σ vs) vs W fin fun _ => False := by
  refine ⟨fun i n accv H' => n = s.items.length - i ∧ ∃ m2 Hc2 S2 acc, Ex m1 Hc1 m2 Hc2 ∧ Zh K fr m2 Hc2 S2 H' ∧ Reps K Hc2 m2 acc accv ∧ Pst K mg fr rel m2 Hc2 w Q ((lcA s g ft fe env (s.items.drop i) acc S2).bnd k),
    ⟨s.items.length, by simp, m1, Hc1, S1, [], Ex.refl _ _, z1, rfl, by simpa using p⟩, ?_⟩
  rintro i n accv H' ⟨rfl, m2, Hc2, S2, acc, x2, z2, rr2, p2⟩
  by_cases hlt : i < s.items.length
  · right
    rw [List.drop_eq_getElem_cons hlt] at p2
    unfold lcA at p2
    by_cases hok : s.okAt S2 = true
    · rw [if_pos hok] at p2
      obtain ⟨hgo, hyl⟩ := (r1 _ m2 Hc2 S2 H' i x2 z2 hok).1 _ (List.getElem?_eq_getElem hlt)
      refine ⟨hgo, fun accv' H3 => ∃ m3 Hc3 S3 acc', Ex m1 Hc1 m3 Hc3 ∧ Zh K fr m3 Hc3 S3 H3 ∧ Reps K Hc3 m3 acc' accv' ∧ Pst K mg fr rel m3 Hc3 w Q ((lcA s g ft fe env (s.items.drop (i + 1)) acc' S3).bnd k), fun acc' H3 hN => ⟨s.items.length - (i + 1), by omega, rfl, hN⟩, fun x H3 hy => ?_⟩
      obtain ⟨m3, Hc3, x3, z3, r3⟩ := hyl x H3 hy
      cases hgd : g s.items[i] env with
      | none => rw [hgd] at p2; exact p2.elim
      | some env3 =>
        rw [hgd] at p2
        replace p2 := Pst.mono x3 p2
        refine hg _ m3 Hc3 S2 H3 x _ env env3 _ _ z3 r3 (Ze.mono (x2.trans x3) zz) hgd fun σ3 zz3 hw => ⟨(hw vs hsl).trans (wipe_wipe fun _ h => h), ?_⟩
        have p3 : Pst K mg fr rel m3 Hc3 w Q ((ft env3 S2).nox.bnd fun b S1 => (if b = true then (fe env3 S1).nox.bnd fun y S2 => if acc.length < bigN then lcA s g ft fe env (s.items.drop (i + 1)) (acc ++ [y]) S2 else .stk else lcA s g ft fe env (s.items.drop (i + 1)) acc S1).bnd k) := by
          rw [← bnd_assoc]; exact p2
        refine ht _ m3 Hc3 env3 S2 σ3 H3 _ z3 zz3 (p3.bnd0 fun b S4 b' m4 Hc4 H4 x4 z4 r4 p4 => ?_)
        cases r4
        have x24 := x2.trans (x3.trans x4)
        cases b with
        | false =>
          rw [if_neg Bool.false_ne_true] at p4 ⊢
          exact ⟨m4, Hc4, S4, acc, x24, z4, Reps.mono (x3.trans x4) _ _ rr2, p4⟩
        | true =>
          rw [if_pos rfl] at p4 ⊢
          have p5 : Pst K mg fr rel m4 Hc4 w Q ((fe env3 S4).nox.bnd fun y S2 => (if acc.length < bigN then lcA s g ft fe env (s.items.drop (i + 1)) (acc ++ [y]) S2 else .stk).bnd k) := by
            rw [← bnd_assoc]; exact p4
          refine he _ m4 Hc4 env3 S4 σ3 H4 _ z4 (Ze.mono x4 zz3) (p5.bnd0 fun y S5 yv m5 Hc5 H5 x5 z5 r5 p6 => ?_)
          have rr5 := Reps.mono (x3.trans (x4.trans x5)) _ _ rr2
          by_cases hl : acc.length < bigN
          · rw [if_pos hl] at p6
            exact ⟨by rw [rr5.length]; exact Nat.lt_of_lt_of_le hl (by decide), .inl ⟨rfl, m5, Hc5, S5, acc ++ [y], x24.trans x5, z5, rr5.append (Reps.one r5), p6⟩⟩
          · rw [if_neg hl] at p6; exact p6.elim
    · rw [if_neg hok] at p2; exact p2.elim
  · left
    rw [List.drop_of_length_le (Nat.le_of_not_lt hlt)] at p2
    unfold lcA at p2
    by_cases hok : s.okAt S2 = true
    · rw [if_pos hok] at p2
      exact ⟨(r1 _ m2 Hc2 S2 H' i x2 z2 hok).2 (Nat.le_of_not_lt hlt), hfin H' m2 Hc2 S2 acc accv x2 z2 rr2 p2⟩
    · rw [if_neg hok] at p2; exact p2.elim
end
section
variable {X : Cx} {W : WX} {c P : Addr} {elt tg iter : Expr} {ifs : List Expr} {scope : Scope} {own : List (Str × Nat)} {pos p cpos : Pos} {wi : TI} {fi : EI} {t : TG} {sl : List Nat} {g : GM} {tt : TT} {ft : EM Bool} {te : TE} {fe : EM D} {k n : Nat} {vs : List Nat}
theorem ze_tupG (hvs : own.map (·.2) = vs) (TB : GxR.TabB X.base X.mg c P) (hP : P ∈ Tabs.ad) (hcode : X.env.code = .ref c) (hc : X.calm = true) (hN : X.N.Nodup) (hk : Room n X.A) (hn : k + 7 ≤ n) (hgl : Gl X "tuple") (hm : X.mg "tuple" = none) (hi : ZI X W tg iter wi fi) (ok : BlkOk X.N X.env.scope scope own)
    (hg : ∀ (s : Shared) (H : Hp) (A : Around) (C : Addr) (code : Value) (fp : List Addr) (pn : List (Addr × Obj)), Room k A → ZG (gx X s H A (gEnv X scope C code) fp pn) tg t sl g)
    (ht : ∀ (s : Shared) (H : Hp) (A : Around) (C : Addr) (code : Value) (fp : List Addr) (pn : List (Addr × Obj)), Room k A → ZTs (gx X s H A (gEnv X scope C code) fp pn) W0 ifs tt ft)
    (he : ∀ (s : Shared) (H : Hp) (A : Around) (C : Addr) (code : Value) (fp : List Addr) (pn : List (Addr × Obj)), Room k A → ZE (gx X s H A (gEnv X scope C code) fp pn) W0 elt te fe)
    (hsl : ∀ i ∈ sl, i ∈ vs := by decide) (hco : scope.isCoroutine = false := by rfl) (hcell : (scope.names.all fun y => !decide (y.2 = .cell)) = true := by decide +kernel) (hdot : scope.names.lookup (".0" : Str) = some NameKind.local := by rfl) (hs : ∀ v, genFold iter X.env v = pure v := by intro _; rfl)
    (hst : starEach [.GeneratorExp elt [⟨tg, iter, ifs, 0⟩] scope pos] X.env = (false, eval (.GeneratorExp elt [⟨tg, iter, ifs, 0⟩] scope pos) X.env) :: starEach [] X.env := by rfl) :
    ZE X W (.Call (.Name "tuple" p) [.GeneratorExp elt [⟨tg, iter, ifs, 0⟩] scope pos] [] cpos) (tTupG (tGl P wi t tt te vs)) (zTG vs fi g ft fe) := by
  subst hvs
  have gk : GxOk X c P elt tg iter ifs scope own wi t tt te k := ⟨TB, hcode, ok, hN, hco, fun y hy e => by
    have := List.all_eq_true.mp hcell y hy
    rw [e] at this
    exact absurd this (by decide), hdot, hc, hi.pi, fun s H A C code fp pn r => (hg s H A C code fp pn r).pg, fun s H A C code fp pn r => (ht s H A C code fp pn r).pt, fun s H A C code fp pn r => (he s H A C code fp pn r).pe, hs⟩
  have hr7 : Room (k + 7) X.A := hk.mono hn
  obtain ⟨A0, hA0⟩ : ∃ A : Around, Room k A := ⟨X.A, hk.mono (by omega)⟩
  refine ⟨pe_tupleG (pgen_gx gk (hr7.mono (by omega))) hr7 hgl hm (by decide +kernel) hst, ?_⟩
  intro fr m Hc env S σ H Q z zz q
  refine hi.sd fr m Hc env S σ H _ z zz (q.bnd fun s S1 J m1 Hc1 H1 x1 z1 r1 q1 => ?_)
  refine ⟨(z1.tab P hP).1, fun H2 hT => ?_⟩
  have z2 := z1.tabbed hP hT
  refine lcA_turns (hg X.s_0 X.H_0 A0 0 .none [] [] hA0).sd hsl (ht X.s_0 X.H_0 A0 0 .none [] [] hA0).sd (he X.s_0 X.H_0 A0 0 .none [] [] hA0).sd r1 z2 ((Ze.mono x1 zz).wipe _) q1 fun H' m2 Hc2 S2 acc accv x2 z3 rr p3 => ?_
  intro p hp
  have x3 := (z3.new (o := .tup accv) hp).2
  exact p3.useN z3 hp ⟨p, accv, rfl, upd_same, Reps.mono x3 _ _ rr⟩
end

/-! ### a def that has a table -/
section
variable {P : Program} {w : World} {K : PySem.W.Frag} {mg : Mg} {base : Heap}
theorem fz_ofT {x : Str} {st : Stmt} {f c : Addr} {fd : FuncData} {N ps : List Str} {k : Nat} {F : List D → Sto → Rs D} {run : SM} (fu : Nat) (gm : mg x = some (.ref f)) (hF : Fun K x x st f fd) (hcode : fd.code = .ref c) (S : FnScope N ps (defScope st)) (hb : Binds K fd ps [])
    (body : ∀ (A : Around) (outer : List Env) (s : Shared) (H : Hp) (E : XK), Room k (A.deeper (envOfC x (defScope st) s.heap.objs.size f (.ref c))) →
      ∃ t, ZSs (cxOf (L2.CX P w) P w K mg base N x (defScope st) f (.ref c) A outer s H E) (fun cls d _ H => E cls d H) (defBody st) t run)
    (impl : ∀ ds S0, ds.length = ps.length → Impl fu S0 (run (startE N ds) S0) (F ds S0)) : FZ P w K mg base (k + 1) x st ps F := by
  refine ⟨f, fd, gm, hF, hb, ?_⟩
  obtain ⟨⟨oc, od, kV, doc, pm, an, cdv, ct, osl, rfl, lk, hcd⟩, _⟩ := id hF
  have ec : cdv = .ref c := hcode
  subst ec
  refine L2.fn_of lk hcd S (fun vs H Q E h => h.1) fun A outer s H vs Q E hr hsp => ?_
  obtain ⟨hl, fr, m, Hc, S0, ds, z, r, p⟩ := hsp
  obtain ⟨t, zs⟩ := body A outer s H E hr
  refine ⟨t, zs.ps, ?_⟩
  have im := impl ds S0 (by rw [← r.length]; exact hl)
  refine zs.sd fr m Hc (startE N ds) S0 (L2.start N vs) H _ z (ze_start r) ?_
  cases h : F ds S0 with
  | stk => rw [h] at p; exact p.elim
  | ok d' S' =>
    rw [h] at p im
    rcases im with ⟨d, S1, e, fi⟩ | ⟨env, S1, e, fi⟩
    · show PstS _ _ _ _ _ _ _ (run (startE N ds) S0)
      rw [e]
      intro v m1 Hc1 H1 x1 z1 r1
      obtain ⟨m2, Hc2, x2, z2, r2⟩ := fin_ok z x1 z1 r1 fi
      exact p v m2 Hc2 H1 x2 z2 r2
    · show PstS _ _ _ _ _ _ _ (run (startE N ds) S0)
      rw [e]
      intro σ1 m1 Hc1 H1 x1 z1 _
      obtain ⟨m2, Hc2, x2, z2, r2⟩ := fin_ok (d := .non) (v := .non) z x1 z1 rfl fi
      exact p .non m2 Hc2 H1 x2 z2 r2
  | exc e S' =>
    rw [h] at p im
    obtain ⟨env, S1, e1, fi⟩ := im
    show PstS _ _ _ _ _ _ _ (run (startE N ds) S0)
    rw [e1]
    intro σ' cls od m1 Hc1 H1 x1 z1 _ r1
    obtain ⟨m2, Hc2, x2, z2, r2⟩ := finX_ok z x1 z1 r1 fi
    exact p cls od m2 Hc2 H1 x2 z2 r2
end
end Z

namespace Z
open PySem L2
open PySem.Spec PyProof.Rows
/-! ### a law's end, with the tables of the defs that have generator expressions -/
/-- the def of this name, its code and its empty table -/
def TabD (mg : Mg) (h : Heap) (nm : Str) (c P : Addr) : Prop := ∃ (f : Addr) (o : Obj) (fd : FuncData), mg nm = some (.ref f) ∧ h.get? f = some o ∧ o.data = .func fd ∧ fd.code = .ref c ∧ PySem.W.CodeHd h c P ∧ h.get? P = some { cls := .none, data := .fields #[] }
/-- the law over a world whose table starts empty -/
abbrev NoX (CX : World → CXT) : Prop := ∀ (w : World) (H : Hp) (s : Shared) (e : Value) (s' : Shared), CX w [] H s (fun _ _ _ => False) e s' → False
theorem walk_ofG {l : PySem.W.OpenLaw} {n k : Nat} {q : Program} {loose : List Str} {XP : (Str → Option Value) → Heap → Prop} {YP : World → Heap → Prop} {d : DefRec} {K : Params → PySem.W.Frag} {CX : World → CXT} {x : Str} (names : List Str)
    (hn : l.most = some n) (hn2 : n ≤ sizeLine) (hdf : d.params.defaults = []) (hr : Room k callerA) (hrec : (names.all fun nm => (recsOf q).any fun e => e.name == nm) = true) (hY : ∀ (w : World) (h : Heap), YP w h → (K w.params).In h)
    (F : ∀ (w : World) (mg : Str → Option Value) (fa : Addr) (h : Heap), YP w h → (K w.params).In h → h.Ns mainGlobals mg → mg d.name = some (.ref fa) → (∀ nm ∈ names, ∃ c P, TabD mg h nm c P) → LamX.LawAtS l w (K w.params) (CX w) k n x mg fa h)
    (noX : NoX CX) : PySem.W.WalkO q loose XP YP l.row.toRowW d [] fun f vs => PySem.call f vs := by
  refine Att.attach_callB hn hdf ?_
  intro w _ s mg _ fa _ _ _ _ a vs ns G Y _ _ _ hmg hobj hints hlen _ hg
  have kin := hY w _ Y
  have tabs : ∀ nm ∈ names, ∃ c P, TabD mg s.heap nm c P := by
    intro nm hm
    have hany := List.all_eq_true.mp hrec nm hm
    rw [List.any_eq_true] at hany
    obtain ⟨r, hr1, hr2⟩ := hany
    obtain rfl := beq_iff_eq.mp hr2
    obtain ⟨f, o, fd, c, P, p1, p2, p3, p4, p5, p6⟩ := G.T.tab r hr1
    exact ⟨c, P, f, o, fd, p1, p2, p3, p4, PySem.W.CodeHd.of p5 p6, p6.2⟩
  obtain ⟨_, _, sp, t1, t2, t3, t4, t5, t6⟩ := F w mg fa _ Y kin G.T.g hmg tabs
  refine LamX.law_callTs kin G.T.g G.T.b G.T.builtins G.T.nolimit hg t1 t2 t3 G.T.bmain hobj hints (Nat.le_trans hlen hn2) hr t6 t4 (fun H hH hS => t5 H a ns hlen ?_ hH hS) fun H e s' => noX w H s e s'
  assumption
/-- the tables of these names -/
theorem tabs_of {mg : Mg} {h : Heap} : ∀ {names : List Str}, (∀ nm ∈ names, ∃ c P, TabD mg h nm c P) → ∃ tb : Str → Addr × Addr, ∀ nm ∈ names, TabD mg h nm (tb nm).1 (tb nm).2
  | [], _ => ⟨fun _ => (0, 0), fun _ h => absurd h (by simp)⟩
  | nm :: r, H => by
    obtain ⟨tb, ht⟩ := tabs_of (names := r) fun n hn => H n (List.mem_cons_of_mem _ hn)
    obtain ⟨c, P, hc⟩ := H nm List.mem_cons_self
    refine ⟨fun n => if n = nm then (c, P) else tb n, fun n hn => ?_⟩
    by_cases e : n = nm
    · simp only [e, if_true]; exact hc
    · simp only [e, if_false]
      exact ht n ((List.mem_cons.mp hn).resolve_left e)
/-- no table is known to the top -/
theorem notab {K : PySem.W.Frag} {h : Heap} {P : Addr} (X : K.In h) (hK : PySem.W.noTabs K = true) (hP : h.get? P = some { cls := .none, data := .fields #[] }) : K.lookup P = none := by
  cases q : K.lookup P with
  | none => rfl
  | some o =>
    have e := X P o q
    rw [hP] at e
    cases e
    have h2 := List.all_eq_true.mp hK (P, _) (PySem.W.mem_of_lookupK q)
    exact nomatch (show false = true from h2)
theorem tabD_code {mg : Mg} {h : Heap} {nm : Str} {c P f : Addr} {K : PySem.W.Frag} {o : Obj} {fd : FuncData} (X : K.In h) (t : TabD mg h nm c P) (hm : mg nm = some (.ref f)) (l : K.lookup f = some o) (hd : o.data = .func fd) : fd.code = .ref c := by
  obtain ⟨f', o', fd', h1, h2, h3, h4, _⟩ := t
  rw [hm] at h1
  cases h1
  have e := X f o l
  rw [h2] at e
  cases e
  rw [h3] at hd
  cases hd
  exact h4
section
variable [Tabs]
def spLawG (K : PySem.W.Frag) : Sp := fun vs H Q E => ∃ (a : Addr) (ns : List Int), vs = [.ref a] ∧ SqL K H a (ns.map V.int) ∧ ns.length ≤ 63 ∧ (∀ P ∈ Tabs.ad, H P = some (.tbl #[])) ∧ ∀ H', Q (.bl true) H'
theorem sp_lawG {K : PySem.W.Frag} {mg : Mg} {vs : List V} {H : Hp} {Q : VK} {E : XK} {F : List D → Sto → Rs D} (ev : ∀ ns : List Int, ns.length ≤ 63 → ∃ S, F [.rol ns] [] = .ok (.bl true) S) (h : spLawG K vs H Q E) : zSp K mg 1 F vs H Q E := by
  obtain ⟨a, ns, rfl, hS, hl, hT, hQ⟩ := h
  obtain ⟨S, hev⟩ := ev ns hl
  have nt : ∀ P ∈ Tabs.ad, P ≠ a ∨ ¬ Rd H a (.lst (ns.map V.int)) := fun P hP => by
    by_cases e : P = a
    · refine .inr fun r => ?_
      have h1 := hT P hP
      rw [e] at h1
      rcases r with r | ⟨o, r⟩ <;> (rw [h1] at r; cases r)
    · exact .inl e
  let Hc : Hp := fun b => if b ∈ Tabs.ad then none else H b
  have hsub : Same Hc H := fun b u e => by
    by_cases hb : b ∈ Tabs.ad
    · have : Hc b = none := if_pos hb
      rw [this] at e; cases e
    · have : Hc b = H b := if_neg hb
      rw [this] at e; exact e
  have hS' : SqL K Hc a (ns.map V.int) := by
    rcases hS with r | r
    · have na : a ∉ Tabs.ad := fun hm => (nt a hm).elim (fun q => q rfl) fun q => q r
      have e : Hc a = H a := if_neg na
      rcases r with r | ⟨o, r⟩
      · exact .inl (.inl (e.trans r))
      · exact .inl (.inr ⟨o, e.trans r⟩)
    · exact .inr r
  refine ⟨rfl, [], [], Hc, [], [.rol ns], ⟨hsub, rfl, List.nodup_nil, fun n a c h => by simp at h, fun p h => by simp at h, List.nodup_nil, fun p h => by simp at h, fun P hP => ⟨⟨#[], hT P hP, by trivial⟩, if_pos hP, by simp, fun p h => by simp at h⟩⟩, ⟨_, _, rfl, ⟨a, rfl, hS'⟩, rfl⟩, ?_⟩
  rw [hev]
  intro b m' Hc' H' _ _ r
  cases r
  exact hQ H'
end
end Z

namespace Z
open PySem L2 StX
open PySem.Spec PyProof.Rows
variable [Tabs]
/-! ### displays with starred items -/
/-- items of any number -/
structure ZAs (X : Cx) (W : WX) (es : List Expr) (t : TA) (f : EM (List D)) : Prop where
  pa : PA X es t
  sd : SA X.K X.mg W t f
def zStar (a : EM D) (r : EM (List D)) : EM (List D) := fun env S => (a env S).bnd fun x S1 => match anyOf x S1 with
  | some ds => (r env S1).bnd fun xs S2 => .ok (ds ++ xs) S2
  | none => .stk
section
variable {X : Cx} {W : WX} {pos : Pos} {e : Expr} {es : List Expr} {te : TE} {fe : EM D} {t : TA} {f : EM (List D)}
theorem Reps.app {K : PySem.W.Frag} {Hc : Hp} {m : List Addr} : ∀ {ds : List D} {vs : List V} {es : List D} {ws : List V}, Reps K Hc m ds vs → Reps K Hc m es ws → Reps K Hc m (ds ++ es) (vs ++ ws)
  | [], _, _, _, h, h' => by cases h; exact h'
  | _ :: _, _, _, _, h, h' => by
    obtain ⟨v, vs, rfl, h1, h2⟩ := h
    exact ⟨v, _, rfl, h1, Reps.app h2 h'⟩
end
/-! ### a list taken apart -/
def zgUnl (n : Nat) (gs : List D → En → Option En) : GM := fun d env => match d with
  | .lst ds => if ds.length = n then gs ds env else none
  | _ => none
section
variable {X : Cx} {pos : Pos} {es : List Expr} {ts : TGs} {sl : List Nat} {gs : List D → En → Option En}
end
end Z

namespace Z
open PySem L2
open PySem.Spec PyProof.Rows
variable [Tabs]
end Z

namespace Z
open PySem L2
open PySem.Spec PyProof.Rows
variable [Tabs]
/-! ### dicts: keys and values side by side -/
section
variable {κ : Type} [dq : DecidableEq κ]
def findK (ks : List κ) (k : κ) : Option Nat := ks.findIdx? fun j => decide (j = k)
theorem findK_cons (j k : κ) (ks : List κ) : findK (j :: ks) k = if j = k then some 0 else (findK ks k).map (· + 1) := by
  unfold findK
  rw [List.findIdx?_cons]
  by_cases e : j = k <;> simp [e]
theorem valV_zip (k : κ) : ∀ (ks : List κ) (vs : List V), valV (ks.zip vs) k = (findK ks k).bind fun i => vs[i]?
  | [], vs => rfl
  | j :: ks, [] => by
    rw [List.zip_nil_right]
    cases findK (j :: ks) k <;> rfl
  | j :: ks, v :: vs => by
    rw [List.zip_cons_cons, findK_cons]
    by_cases e : j = k
    · rw [valV_pos e, if_pos e]; rfl
    · rw [valV_neg e, if_neg e, valV_zip k ks vs]
      cases findK ks k <;> simp
theorem findK_lt {k : κ} : ∀ {ks : List κ} {i : Nat}, findK ks k = some i → i < ks.length
  | [], _, h => by cases h
  | j :: ks, i, h => by
    rw [findK_cons] at h
    by_cases e : j = k
    · rw [if_pos e] at h; cases h; simp
    · rw [if_neg e] at h
      cases h2 : findK ks k with
      | none => rw [h2] at h; cases h
      | some q =>
        rw [h2] at h; cases h
        have := findK_lt h2
        simp; omega
theorem findK_mem {k : κ} : ∀ {ks : List κ} {i : Nat}, findK ks k = some i → k ∈ ks
  | [], _, h => by cases h
  | j :: ks, i, h => by
    rw [findK_cons] at h
    by_cases e : j = k
    · rw [e]; exact List.mem_cons_self
    · rw [if_neg e] at h
      cases h2 : findK ks k with
      | none => rw [h2] at h; cases h
      | some q => exact List.mem_cons_of_mem _ (findK_mem h2)
theorem map_keep {k : κ} {v : V} : ∀ (ks : List κ) (vs : List V), k ∉ ks → ((ks.zip vs).map fun kv => if kv.1 = k then (kv.1, v) else kv) = ks.zip vs
  | [], vs, _ => rfl
  | j :: ks, [], _ => by rw [List.zip_nil_right]; rfl
  | j :: ks, u :: vs, h => by
    have h1 : ¬ j = k := fun e => h (e ▸ List.mem_cons_self)
    rw [List.zip_cons_cons, List.map_cons, map_keep ks vs fun q => h (List.mem_cons_of_mem _ q)]
    simp [h1]
theorem map_set {k : κ} {v : V} : ∀ (ks : List κ) (vs : List V) (i : Nat), findK ks k = some i → ks.Nodup → ((ks.zip vs).map fun kv => if kv.1 = k then (kv.1, v) else kv) = ks.zip (vs.set i v)
  | [], _, _, h, _ => by cases h
  | j :: ks, [], i, _, _ => by rw [List.zip_nil_right]; simp
  | j :: ks, u :: vs, i, h, nd => by
    have ⟨n1, n2⟩ := List.nodup_cons.mp nd
    rw [findK_cons] at h
    rw [List.zip_cons_cons, List.map_cons]
    by_cases e : j = k
    · rw [if_pos e] at h; cases h
      rw [map_keep ks vs (e ▸ n1)]
      simp [e]
    · rw [if_neg e] at h
      cases h2 : findK ks k with
      | none => rw [h2] at h; cases h
      | some q =>
        rw [h2] at h; cases h
        rw [map_set ks vs q h2 n2]
        simp [e]
theorem putK_zip {k : κ} {v : V} {ks : List κ} {vs : List V} {i : Nat} (h : findK ks k = some i) (nd : ks.Nodup) (hl : ks.length = vs.length) : putK (ks.zip vs) k v = ks.zip (vs.set i v) := by
  have hi : i < vs.length := hl ▸ findK_lt h
  have : ((ks.zip vs).any fun kv => decide (kv.1 = k)) = true := by
    rw [valV_any, valV_zip, h]
    simp [hi]
  unfold putK
  rw [if_pos this, map_set ks vs i h nd]
theorem putK_zipN {k : κ} {v : V} {ks : List κ} {vs : List V} (h : findK ks k = none) (hl : ks.length = vs.length) : putK (ks.zip vs) k v = (ks ++ [k]).zip (vs ++ [v]) := by
  rw [putK_new _ (by rw [valV_zip, h]; rfl), List.zip_append hl]
  rfl
end
theorem merge_zip : ∀ (ks : List Key) (vs : List V) (js : List Key) (us : List V), ks.length = vs.length → js.length = us.length → (js ++ ks).Nodup → mergeK (js.zip us) (ks.zip vs) = (js ++ ks).zip (us ++ vs)
  | [], [], js, us, _, _, _ => by simp [mergeK]
  | [], _ :: _, _, _, h, _, _ => by cases h
  | _ :: _, [], _, _, h, _, _ => by cases h
  | k :: ks, v :: vs, js, us, h, h2, nd => by
    have hn : findK js k = none := by
      cases e : findK js k with
      | none => rfl
      | some i =>
        have := findK_mem e
        have nd2 := List.nodup_append.mp nd
        exact absurd rfl (nd2.2.2 k this k List.mem_cons_self)
    show mergeK (putK (js.zip us) k v) (ks.zip vs) = _
    rw [putK_zipN hn h2, merge_zip ks vs (js ++ [k]) (us ++ [v]) (by simpa using h) (by simp [h2]) (by simpa using nd)]
    simp
def dctOf (d : D) (S : Sto) : Option (List Key × List D) := match d with
  | .dct ks ds => some (ks, ds)
  | .ptr n => match S[n]? with
    | some (.dct ks ds) => some (ks, ds)
    | _ => none
  | _ => none
def dKey : D → Option Key
  | .int i => some (.inl i)
  | .str x => some (.inr x)
  | _ => none
section
variable {K : PySem.W.Frag} {mg : Mg} {fr : List (Addr × HO)} {m : List Addr} {Hc : Hp} {S : Sto} {H : Hp}
theorem Zh.dct (z : Zh K fr m Hc S H) {d : D} {v : V} {q : List Key × List D} (r : Rep K Hc m d v) (e : dctOf d S = some q) : ∃ a vs, v = .ref a ∧ H a = some (.dK (q.1.zip vs)) ∧ q.1.length = q.2.length ∧ Reps K Hc m q.2 vs := by
  unfold dctOf at e
  cases d <;> first | cases e; done | skip
  case dct ks ds =>
    cases e
    obtain ⟨a, vs, rfl, h, hl, rr⟩ := r
    exact ⟨a, vs, rfl, z.sub _ _ h, hl, rr⟩
  case ptr n =>
    obtain ⟨a, rfl, hn⟩ := r
    cases h : S[n]? with
    | none => simp [h] at e
    | some c =>
      cases c with
      | gone => simp [h] at e
      | dtt lk ks0 ds0 => simp [h] at e
      | obj nm0 ks0 ds0 => simp [h] at e
      | lst ds => simp [h] at e
      | dct ks ds =>
        simp only [h] at e
        cases e
        obtain ⟨_, vs, h1, h2, h3⟩ := z.cel n a _ hn h
        exact ⟨a, vs, rfl, h1, h2, h3⟩
theorem rep_key {k : D} {y : V} {key : Key} (r : Rep K Hc m k y) (e : dKey k = some key) : y = kV key := by
  cases k <;> cases e <;> exact r
def dGetD (x k : D) (S : Sto) : Rs D := match dctOf x S, dKey k with
  | some p, some q => match (findK p.1 q).bind fun i => p.2[i]? with
    | some d => .ok d S
    | none => .stk
  | _, _ => .stk
def rGetD : R2 := fun x y H Q => ∃ a v, x = .ref a ∧ DGet H a y (some v) ∧ Q v H
theorem os_dget : OS K mg rGetD dGetD := by
  intro fr m Hc S H x y dx dy w Q z r1 r2 p
  unfold dGetD at p
  cases h : dctOf dx S with
  | none => simp only [h] at p; exact p.elim
  | some q =>
    cases h2 : dKey dy with
    | none => simp only [h, h2] at p; exact p.elim
    | some key =>
      simp only [h, h2] at p
      cases h3 : (findK q.1 key).bind fun i => q.2[i]? with
      | none => simp only [h3] at p; exact p.elim
      | some d =>
        simp only [h3] at p
        obtain ⟨a, vs, rfl, hH, hl, rr⟩ := z.dct r1 h
        have ek := rep_key r2 h2
        subst ek
        obtain ⟨i, hi, hd⟩ := Option.bind_eq_some_iff.mp h3
        obtain ⟨v, hv, rv⟩ := rr.get hd
        refine ⟨a, v, rfl, ?_, p.use z rv⟩
        have := DGet.k (k := key) hH
        rw [valV_zip, hi] at this
        have e : ((some i).bind fun i => vs[i]?) = some v := hv
        rw [e] at this
        exact this
end
section
variable {X : Cx} {K : PySem.W.Frag} {W : WX} {pos pos' tpos : Pos} {o i e : Expr} {to ti te : TE} {fo fi fe : EM D}
theorem ze_dget {k : Nat} (hr : Room k X.A) (ho : ZE X W o to fo) (hi : ZE X W i ti fi) (hs : NoSl i := by exact fun _ _ => rfl) : ZE X W (.Subscript o i pos) (tOp rGetD to ti) (zOp dGetD fo fi) :=
  ⟨pe_dget (by have := hr.units; omega) ho.pe hi.pe hs, se_op ho.sd hi.sd os_dget⟩
end
/-! ### writing -/
section
variable {K : PySem.W.Frag} {mg : Mg} {fr : List (Addr × HO)} {m : List Addr} {Hc : Hp} {S : Sto} {H : Hp}
theorem Zh.wrG (z : Zh K fr m Hc S H) {n : Nat} {a : Addr} {c c' : C} {o : HO} (hn : m[n]? = some a) (hs : S[n]? = some c) (hc : Hc a = none) (new : ∀ H' : Hp, H' a = some o → COk K Hc m H' a c') : Zh K fr m Hc (S.set n c') (upd H a o) := by
  have x := Ex.refl m Hc
  refine ⟨fun b u e => ?_, by simp [z.len], z.nd, fun k b c h1 h2 => ?_, fun q hq => ?_, z.fnd, z.nt, fun P hP => let h := z.tab P hP; ⟨TabG.upd h.1 (h.ne_m hn), h.2⟩⟩
  · have nb : b ≠ a := ne_of_none e hc
    rw [upd_ne nb]; exact z.sub b u e
  · by_cases hk : n = k
    · subst hk
      have eab : b = a := Option.some.inj (h1.symm.trans hn)
      subst eab
      have hl : n < S.length := (List.getElem?_eq_some_iff.mp hs).1
      rw [List.getElem?_set_self hl] at h2
      cases h2
      exact new _ upd_same
    · rw [List.getElem?_set_ne hk] at h2
      have na : b ≠ a := fun e => hk (nd_ix z.nd hn (e ▸ h1))
      refine COk.mono x ?_ (upd_ne na) (z.cel k b c h1 h2)
      cases ebh : Hc b with
      | none => exact .inl rfl
      | some u => exact .inr ⟨u, rfl⟩
  · obtain ⟨h1, h2, h3⟩ := z.frm q hq
    have nq : q.1 ≠ a := fun e => h3 (e ▸ List.mem_of_getElem? hn)
    exact ⟨by rw [upd_ne nq]; exact h1, h2, h3⟩
/-- what is framed goes into the store -/
theorem Zh.unframeG {p : Addr} {o : HO} {c : C} (z : Zh K ((p, o) :: fr) m Hc S H) (new : ∀ m', Ex m Hc m' Hc → COk K Hc m' H p c) : Zh K fr (m ++ [p]) Hc (S ++ [c]) H ∧ Ex m Hc (m ++ [p]) Hc := by
  obtain ⟨hH, hc, pm⟩ := z.frm (p, o) List.mem_cons_self
  have nd := z.fnd
  replace nd := List.nodup_cons.mp nd
  have x : Ex m Hc (m ++ [p]) Hc := ⟨⟨[p], rfl⟩, Same.refl _⟩
  refine ⟨⟨z.sub, by simp [z.len], ?_, fun n a c' h1 h2 => ?_, fun q hq => ?_, nd.2, fun p hp => z.nt p (List.mem_cons_of_mem _ hp), fun P hP => let h := z.tab P hP; have np : P ≠ p := Ne.symm (h.2.2.2 (p, o) List.mem_cons_self); ⟨h.1, h.2.1, fun hm => (List.mem_append.mp hm).elim h.2.2.1 fun e => np (by simpa using e), fun q hq => h.2.2.2 q (List.mem_cons_of_mem _ hq)⟩⟩, x⟩
  · refine List.nodup_append.mpr ⟨z.nd, List.nodup_cons.mpr ⟨List.not_mem_nil, List.nodup_nil⟩, fun a ha b hb eab => ?_⟩
    have eb : b = p := List.mem_singleton.mp hb
    exact pm (eb ▸ eab ▸ ha)
  · by_cases hn : n < m.length
    · rw [List.getElem?_append_left hn] at h1
      rw [List.getElem?_append_left (by rw [← z.len]; exact hn)] at h2
      refine COk.mono x ?_ rfl (z.cel n a c' h1 h2)
      cases eah : Hc a with
      | none => exact .inl rfl
      | some u => exact .inr ⟨u, rfl⟩
    · have hle : m.length ≤ n := Nat.le_of_not_lt hn
      have e0 : n = m.length := by
        have := (List.getElem?_eq_some_iff.mp h1).1
        rw [List.length_append, List.length_singleton] at this
        omega
      subst e0
      rw [List.getElem?_append_right (Nat.le_refl _), Nat.sub_self] at h1
      rw [z.len, List.getElem?_append_right (Nat.le_refl _), Nat.sub_self] at h2
      cases h1; cases h2
      exact new _ x
  · obtain ⟨h1, h2, h3⟩ := z.frm q (List.mem_cons_of_mem _ hq)
    have nq : q.1 ≠ p := fun e => nd.1 (List.mem_map.mpr ⟨q, hq, e⟩)
    exact ⟨h1, h2, fun hm => (List.mem_append.mp hm).elim h3 fun h => nq (List.mem_singleton.mp h)⟩
def dctMax : Nat := 1000000
def dPutS (x k v : D) (S : Sto) : Option Sto := match x, dKey k with
  | .ptr n, some key => match S[n]? with
    | some (.dct ks ds) => if ks.length < dctMax ∧ ks.Nodup then (match findK ks key with
      | some i => some (S.set n (.dct ks (ds.set i v)))
      | none => some (S.set n (.dct (ks ++ [key]) (ds ++ [v])))) else none
    | _ => none
  | _, _ => none
theorem dPutS_ok {S'} {x k v : D} {xv kv vv : V} {Q : Hp → Prop} (z : Zh K fr m Hc S H) (rx : Rep K Hc m x xv) (rk : Rep K Hc m k kv) (rv : Rep K Hc m v vv) (e : dPutS x k v S = some S') (q : ∀ H', Zh K fr m Hc S' H' → Q H') :
    ∃ a H4, xv = .ref a ∧ DPut H a kv vv H4 ∧ Q H4 := by
  unfold dPutS at e
  cases x <;> first | cases e; done | skip
  rename_i n
  obtain ⟨a, rfl, hn⟩ := rx
  cases h2 : dKey k with
  | none => simp only [h2] at e; cases e
  | some key =>
    simp only [h2] at e
    have ek := rep_key rk h2
    subst ek
    cases h : S[n]? with
    | none => simp [h] at e
    | some c =>
      cases c with
      | gone => simp [h] at e
      | dtt lk ks0 ds0 => simp [h] at e
      | obj nm0 ks0 ds0 => simp [h] at e
      | lst ds => simp [h] at e
      | dct ks ds =>
        simp only [h] at e
        obtain ⟨hc, vs, h1, hl, rr⟩ := z.cel n a _ hn h
        have hlv : ks.length = vs.length := hl.trans rr.length.symm
        by_cases hb : ks.length < dctMax ∧ ks.Nodup
        · rw [if_pos hb] at e
          have hz : (ks.zip vs).length < sizeLine := by
            rw [List.length_zip, ← hlv, Nat.min_self, sizeLine_eq]
            have : dctMax = 1000000 := rfl
            omega
          cases h3 : findK ks key with
          | some i =>
            simp only [h3] at e
            cases e
            refine ⟨a, _, rfl, DPut.k h1 hz, ?_⟩
            rw [putK_zip h3 hb.2 hlv]
            exact q _ (z.wrG hn h hc fun H' hH => ⟨hc, _, hH, by simp [hl], rr.set i rv⟩)
          | none =>
            simp only [h3] at e
            cases e
            refine ⟨a, _, rfl, DPut.k h1 hz, ?_⟩
            rw [putK_zipN h3 hlv]
            exact q _ (z.wrG hn h hc fun H' hH => ⟨hc, _, hH, by simp [hl], rr.append (Reps.one rv)⟩)
        · rw [if_neg hb] at e; cases e
end
def zPutD (o i e : EM D) : SM := fun env S => (e env S).st env fun v S1 => (o env S1).st env fun x S2 => (i env S2).st env fun y S3 => match dPutS x y v S3 with
  | some S4 => .mk (.next env) S4
  | none => .stk
section
variable {X : Cx} {K : PySem.W.Frag} {W : WX} {pos pos' tpos : Pos} {o i e : Expr} {to ti te : TE} {fo fi fe : EM D}
theorem zs_dput {k : Nat} (hr : Room k X.A) (ho : ZE X W o to fo) (hi : ZE X W i ti fi) (he : ZE X W e te fe) (hs : swapsWith e (some (.Subscript o i pos')) pos.line X.env = pure false := by rfl) : ZS X W (.Assign [.Subscript o i pos'] e pos) (sDPut to ti te) (zPutD fo fi fe) := by
  refine ⟨ps_dput (by have := hr.units; omega) ho.pe hi.pe he.pe hs, ?_⟩
  intro fr m Hc env S σ H E z zz p
  refine he.sd fr m Hc env S σ H _ z zz (p.bnd zz fun d S1 v m1 Hc1 H1 x1 z1 r1 p1 => ?_)
  refine ho.sd fr m1 Hc1 env S1 σ H1 _ z1 (Ze.mono x1 zz) (p1.bnd (Ze.mono x1 zz) fun x S2 ov m2 Hc2 H2 x2 z2 r2 p2 => ?_)
  have zz2 := Ze.mono (x1.trans x2) zz
  refine hi.sd fr m2 Hc2 env S2 σ H2 _ z2 zz2 (p2.bnd zz2 fun y S3 iv m3 Hc3 H3 x3 z3 r3 p3 => ?_)
  cases h : dPutS x y d S3 with
  | none => simp [h] at p3; exact p3.elim
  | some S4 =>
    simp only [h] at p3
    exact dPutS_ok z3 (Rep.mono x3 _ _ r2) r3 (Rep.mono (x2.trans x3) _ _ r1) h fun H' z' => p3 σ m3 Hc3 H' (Ex.refl _ _) z' (Ze.mono x3 zz2)
end
/-! ### displays -/
structure ZDs (X : Cx) (ks : List Key) (pos : Pos) (keys : List (Option Expr)) (vs : List Expr) (trs : List (TE × TE)) (f : EM (List D)) : Prop where
  pp : PPs X pos keys vs trs
  sd : ∀ fr m Hc env S σ H (Q : List (V × V) → Hp → Prop), Zh X.K fr m Hc S H → Ze X.K Hc m env σ → Pst X.K X.mg fr (fun Hc m ds vs => Reps X.K Hc m ds vs) m Hc (fun _ _ _ => False) (fun vs H => Q ((ks.map kV).zip vs) H) (f env S) → tPairs trs σ H Q
def zdCons (fe : EM D) (f : EM (List D)) : EM (List D) := fun env S => (fe env S).nox.bnd fun x S1 => (f env S1).bnd fun xs S2 => .ok (x :: xs) S2
def Mk.resD : Mk → List Key → List D → Sto → Rs D
  | .frz, ks, ds, S => .ok (.dct ks ds) S
  | .cel, ks, ds, S => .ok (.ptr S.length) (S ++ [.dct ks ds])
def zDict (k : Mk) (ks : List Key) (f : EM (List D)) : EM D := fun env S => (f env S).nox.bnd fun ds S1 => if ds.length = ks.length then k.resD ks ds S1 else .stk
section
variable {X : Cx} {K : PySem.W.Frag} {W : WX} {pos pos' p1 : Pos} {e : Expr} {vs : List Expr} {te : TE} {fe : EM D} {ks : List Key} {keys : List (Option Expr)} {trs : List (TE × TE)} {f : EM (List D)}
theorem zd_nil : ZDs X [] pos [] [] [] zNil := ⟨pps_nil, fun fr m Hc env S σ H Q z zz p => p.use (b := []) z rfl⟩
theorem zd_str {j} {x : Str} (he : ZE X W0 e te fe) (h : ZDs X ks pos keys vs trs f) : ZDs X (.inr x :: ks) pos (some (.Constant (.str x) j p1) :: keys) (e :: vs) ((tC (.str x), te) :: trs) (zdCons fe f) := by
  refine ⟨pps_cons pe_str he.pe h.pp, fun fr m Hc env S σ H Q z zz p => ?_⟩
  refine he.sd fr m Hc env S σ H _ z zz (p.bnd0 fun x S1 v m1 Hc1 H1 x1 z1 r1 p1 => ?_)
  refine h.sd fr m1 Hc1 env S1 σ H1 _ z1 (Ze.mono x1 zz) (p1.bnd fun xs S2 us m2 Hc2 H2 x2 z2 r2 p2 => ?_)
  exact p2.use (b := v :: us) z2 ⟨v, us, rfl, Rep.mono x2 _ _ r1, r2⟩
theorem kvs_map : ∀ (ks : List Key) (us : List V), (ks.map kV).zip us = (ks.zip us).map fun kv => (kV kv.1, kv.2)
  | [], _ => rfl
  | _ :: _, [] => rfl
  | k :: ks, u :: us => by simp [kvs_map ks us]
theorem ze_dict (k : Mk) (h : ZDs X ks pos keys vs trs f) (nd : ks.Nodup) (h15 : ks.length ≤ 15 := by decide) (hall : keys.all (·.isSome) = true := by rfl) (hl : keys.length = vs.length := by rfl) (h0 : keys ≠ [] := by exact fun z => nomatch z) (hk : keys.length ≤ 15 := by decide) :
    ZE X W (.Dict keys vs pos) (tDisp trs) (zDict k ks f) := by
  refine ⟨pe_disp h.pp hall hl h0 hk, fun fr m Hc env S σ H Q z zz p => ?_⟩
  intro pa hD
  have p : Pst X.K X.mg fr (fun Hc m d v => Rep X.K Hc m d v) m Hc (fun c o H => W c o σ H) Q ((f env S).nox.bnd fun ds S1 => if ds.length = ks.length then k.resD ks ds S1 else .stk) := p
  refine h.sd ((pa, .dK []) :: fr) m Hc env S σ _ _ (z.frame hD) zz (p.bnd0 fun ds S1 us m1 Hc1 H1 x1 z1 r1 p1 => ?_)
  by_cases hlen : ds.length = ks.length
  · rw [if_pos hlen] at p1
    have hlu : ks.length = us.length := by rw [r1.length, hlen]
    refine ⟨(z1.frm _ List.mem_cons_self).1, ks.zip us, kvs_map ks us, by rw [List.length_zip]; omega, ?_⟩
    have em : mergeK [] (ks.zip us) = ks.zip us := by
      have := merge_zip ks us [] [] hlu rfl (by simpa using nd)
      simpa using this
    rw [em]
    have z2 := z1.reframe (o' := .dK (ks.zip us))
    cases k with
    | frz =>
      obtain ⟨z3, x3⟩ := z2.unframe
      exact p1 _ _ _ _ x3 z3 ⟨pa, us, rfl, upd_same, hlen.symm, Reps.mono x3 _ _ r1⟩
    | cel =>
      have hc : Hc1 pa = none := (z1.frm _ List.mem_cons_self).2.1
      obtain ⟨z3, x3⟩ := z2.unframeG (c := .dct ks ds) fun m' x => ⟨hc, us, upd_same, hlen.symm, Reps.mono x _ _ r1⟩
      exact p1 _ _ _ _ x3 z3 ⟨pa, rfl, by rw [← z1.len, List.getElem?_append_right (Nat.le_refl _)]; simp⟩
  · rw [if_neg hlen] at p1; exact p1.elim
end
end Z

namespace Z
open PySem L2
open PySem.Spec PyProof.Rows
variable [Tabs]
/-! ### list(range(n)), tuple(range(n)) -/
inductive RgK where
  | lst | cel | tup
def RgK.res : RgK → List D → Sto → Rs D
  | .lst, ds, S => .ok (.lst ds) S
  | .cel, ds, S => .ok (.ptr S.length) (S ++ [.lst ds])
  | .tup, ds, S => .ok (.tup ds) S
def zRgA (k : RgK) (fa : EM D) : EM D := fun env S => (fa env S).bnd fun d S1 => match d with
  | .int n => if n ≤ 1000000 ∧ -1000000 ≤ n then k.res (rangeD 0 n) S1 else .stk
  | _ => .stk
theorem reps_rg {K Hc m} (i : Int) : Reps K Hc m (rangeD 0 i) (rgV 0 i) := by
  unfold rangeD rgV
  generalize List.range (i - 0).toNat = l
  induction l with
  | nil => rfl
  | cons a l ih => exact ⟨_, _, rfl, rfl, ih⟩
theorem rg_ok {i : Int} (h : i ≤ 1000000 ∧ -1000000 ≤ i) : RgOk 0 i := ⟨by omega, by omega, by omega, by omega, by omega⟩
section
variable {X : Cx} {W : WX} {pos p p1 pos1 : Pos} {a : Expr} {ta : TE} {fa : EM D}
theorem rg_sd {K mg} {k : RgK} (ha : SE K mg W ta fa) (hk : k ≠ .tup) : SE K mg W (tLstRg (tRg1 ta)) (zRgA k fa) := by
  intro fr m Hc env S σ H Q z zz q
  refine ha fr m Hc env S σ H _ z zz (q.bnd fun d S1 v m1 Hc1 H1 x1 z1 r1 q1 => ?_)
  cases d <;> first | exact q1.elim | skip
  rename_i i
  cases r1
  by_cases hb : i ≤ 1000000 ∧ -1000000 ≤ i
  · simp only [if_pos hb] at q1
    refine ⟨i, rfl, rg_ok hb, fun l hl => ?_⟩
    cases k with
    | tup => exact absurd rfl hk
    | lst => exact q1.useN z1 hl ⟨l, _, rfl, upd_same, reps_rg i⟩
    | cel => exact q1.useC z1 hl (reps_rg i)
  · simp only [if_neg hb] at q1; exact q1.elim
theorem ze_listRg {k : RgK} (hk : k ≠ .tup) (hc : X.calm = true) (hg : Gl X "list") (hm : X.mg "list" = none) (hg2 : Gl X "range") (hm2 : X.mg "range" = none) (ha : ZE X W a ta fa) (na2 : starEach [a] X.env = (false, eval a X.env) :: starEach [] X.env := by rfl)
    (na : starEach [.Call (.Name "range" p1) [a] [] pos1] X.env = (false, eval (.Call (.Name "range" p1) [a] [] pos1) X.env) :: starEach [] X.env := by rfl) : ZE X W (.Call (.Name "list" p) [.Call (.Name "range" p1) [a] [] pos1] [] pos) (tLstRg (tRg1 ta)) (zRgA k fa) :=
  ⟨pe_listRg hc hg hm (prg_1 hg2 hm2 ha.pe na2) na, rg_sd ha.sd hk⟩
end
end Z

namespace Z
open PySem L2
open PySem.Spec PyProof.Rows
variable [Tabs]
theorem two_mem {x y z : Addr} : x ∈ [y, z] ↔ x = y ∨ x = z := by simp
/-- what stands meanwhile -/
structure EnS (en cur ta : Addr) (k : Nat) (hp : Heap) : Prop where
  num : ∃ u, IsEnum hp en cur ((k : Nat) : Int) u
  at_ : hp.IsTupleIter cur ta k
  two : en ≠ cur
section
variable {en cur ta : Addr} {k : Nat} {hp hq : Heap}
theorem EnS.stay (st : EnS en cur ta k hp) (kept : ∀ c ∈ [en, cur], ∀ o, hp.get? c = some o → hq.get? c = some o) : EnS en cur ta k hq :=
  ⟨st.num.imp fun _ q => kept en (two_mem.mpr (.inl rfl)) _ q, st.at_.at fun o q => kept cur (two_mem.mpr (.inr rfl)) o q, st.two⟩
theorem EnS.apart {us : Array Value} (st : EnS en cur ta k hp) (T : hp.IsTuple ta us) : ta ≠ cur ∧ en ∉ [cur, ta] := by
  obtain ⟨ob, t1, t2, _⟩ := T
  obtain ⟨oc, c1, c2, _⟩ := st.at_
  obtain ⟨old, e1⟩ := st.num
  refine ⟨fun z => ?_, fun m => ?_⟩
  · rw [z, c1] at t1
    cases t1
    exact absurd (Value.type.inj (c2.symm.trans t2)) (by decide)
  · rw [two_mem] at m
    rcases m with z | z
    · exact st.two z
    · unfold IsEnum at e1
      rw [z, t1] at e1
      cases e1
      exact absurd (Value.type.inj t2) (by decide)
variable {P : Program} {w : World} {A : Around} {X0 : Value → Shared → Prop} {sh : Shared} {us : Array Value}
/-- behind the last one -/
theorem EnS.over {G : Option Value → Shared → Prop} (hh : A.in1.handled = none) (st : EnS en cur ta k sh.heap) (T : sh.heap.IsTuple ta us) (hv : us[k]? = none) (fin : ∀ hn, Heap.ExtBut cur sh.heap hn → G none { sh with heap := hn }) : wpAny (model P w) A (pyNext (.ref en)) G X0 sh := by
  obtain ⟨old, q⟩ := st.num
  have none_left : Draws P w A.in1 cur [cur, ta] k (fun _ _ => False) (fun j hz => j = k ∧ hz.IsTupleIter cur ta j ∧ hz.IsTuple ta us) := {
    live := fun _ _ z => z.2.1.imp fun _ z => z.1
    frame := fun _ _ _ z kept => ⟨z.1, z.2.1.at fun o m => kept cur (two_mem.mpr (.inl rfl)) o m, z.2.2.at fun o m => kept ta (two_mem.mpr (.inr rfl)) o m⟩
    item := fun j _ _ _ lt z _ => absurd z.1 (Nat.ne_of_lt lt)
    done := fun _ _ _ z go => wpAny_nextOf_tuple_end hh z.2.1 z.2.2 hv go }
  exact wpAny_pyNext_enum_endD none_left q ⟨rfl, st.at_, T⟩ fin
end
def zEnumB (a : EM (List D)) : EI := fun env S => (a env S).bnd fun xs S1 => match xs with
  | [.tup ds] => .ok ⟨ds.zipIdx.map fun p => D.tup [.int (p.2 : Nat), p.1], none⟩ S1
  | [.rot ds] => .ok ⟨ds.zipIdx.map fun p => D.tup [.int (p.2 : Nat), p.1], none⟩ S1
  | _ => zEnum (fun _ S => .ok xs S) env S1
end Z

namespace Z
open PySem L2
open PySem.Spec PyProof.Rows
variable [Tabs]
/-! ### defs with keyword-only parameters that have values of their own -/
/-- a def's promise: dd, dvs the values that a call with places alone fills up -/
structure FZd (P : Program) (w : World) (K : PySem.W.Frag) (mg : Mg) (base : Heap) (k : Nat) (x : Str) (st : Stmt) (ps : List Str) (dd : List D) (dvs : List V) (F : List D → Sto → Rs D) : Prop where
  ex : ∃ (f : Addr) (fd : FuncData) (ds : List Value), mg x = some (.ref f) ∧ Fun K x x st f fd ∧ Vals dvs ds ∧ (∀ Hc m, Reps K Hc m dd dvs) ∧ Binds K fd ps ds ∧ FnOk P w K mg base (L2.CX P w) k f fd ps (zSp K mg ps.length F)
theorem FZd.mono {P w K mg base} {j k : Nat} {x : Str} {st : Stmt} {ps : List Str} {dd : List D} {dvs : List V} {F : List D → Sto → Rs D} (h : FZd P w K mg base j x st ps dd dvs F) (hl : j ≤ k) : FZd P w K mg base k x st ps dd dvs F := by
  obtain ⟨fa, fd, ds, gm, hF, hv, hr, hb, ok⟩ := h.ex
  exact ⟨fa, fd, ds, gm, hF, hv, hr, hb, ok.mono hl⟩
/-- the promise without the way it is called -/
structure FZ0 (P : Program) (w : World) (K : PySem.W.Frag) (mg : Mg) (base : Heap) (k : Nat) (x : Str) (st : Stmt) (ps : List Str) (f : Addr) (fd : FuncData) (F : List D → Sto → Rs D) : Prop where
  ok : FnOk P w K mg base (L2.CX P w) k f fd ps (zSp K mg ps.length F)
section
variable {P : Program} {w : World} {K : PySem.W.Frag} {mg : Mg} {base : Heap}
end
section
variable {X : Cx} {K : PySem.W.Frag} {mg : Mg} {W : WX} {pos p : Pos} {x : Str} {e : Expr} {es : List Expr} {kws : List Keyword} {t tkk : TA} {f fk : EM (List D)} {dd : List D} {dvs : List V} {n k : Nat} {st : Stmt} {ps : List Str} {F : List D → Sto → Rs D}
/-- what a call with keywords needs of a def -/
theorem FZd.bare (h : FZd X.prog X.w X.K X.mg X.base k x st ps dd dvs F) : ∃ fa fd, X.mg x = some (.ref fa) ∧ Fun X.K x x st fa fd ∧ FnOk X.prog X.w X.K X.mg X.base (L2.CX X.prog X.w) k fa fd ps (zSp X.K X.mg ps.length F) :=
  let ⟨fa, fd, _, gm, hF, _, _, _, ok⟩ := h.ex
  ⟨fa, fd, gm, hF, ok⟩
end
end Z

namespace Z
open PySem L2
open PySem.Spec PyProof.Rows
variable [Tabs]
def zBack (a : EM D) : EM D := fun env S => (a env S).bnd fun x S1 => match seqOf x S1 with
  | some ds => .ok (.lst ds.reverse) S1
  | none => .stk
end Z

/-! Z23: try, except C as e: the error that the suite holds stands in no slot of the deep locals; its class and fields are the suite's own argument. -/
namespace Z
open PySem L2
open PySem.Spec PyProof.Rows
variable [Tabs]
section
variable {K : PySem.W.Frag} {mg : Mg} {Hc Hc' H H' : Hp} {m m' : List Addr} {x : XV} {cls : Value} {od : Option Addr} {a : Addr} {i : Nat} {env : En} {σ : L2.St}
theorem RepF.mono (e : Ex m Hc m' Hc') : ∀ {ds : List (Str × D)} {vs : List (Str × V)}, RepF K Hc m ds vs → RepF K Hc' m' ds vs
  | [], _, h => h
  | (n, d) :: ds, _, ⟨v, r, q, h1, h2⟩ => ⟨v, r, q, Rep.mono e d v h1, RepF.mono e h2⟩
theorem RepX.mono (e : Ex m Hc m' Hc') (h : RepX K mg Hc m x cls od H) : RepX K mg Hc' m' x cls od H' := by
  obtain ⟨Ca, g1, g2, g3⟩ := h
  refine ⟨Ca, g1, g2, ?_⟩
  cases hf : x.fs with
  | none => rw [hf] at g3; exact g3
  | some fs =>
    rw [hf] at g3
    obtain ⟨d, vfs, e1, e2, e3⟩ := g3
    exact ⟨d, vfs, e1, e.sub _ _ e2, e3.mono e⟩
/-- slot i holds the error at a -/
@[reducible] def hotX (K : PySem.W.Frag) (mg : Mg) (i : Nat) (a : Addr) (x : XV) (cls : Value) (od : Option Addr) : Hot where
  ok Hc m σ := (σ : List (Option V))[i]? = some (some (.ref a)) ∧ RepX K mg Hc m x cls od Hc
  free j := j ≠ i
  mono e h := ⟨h.1, RepX.mono e h.2⟩
  put hj h := ⟨by rw [List.getElem?_set_ne hj]; exact h.1, h.2⟩
end
def unhot (i : Nat) : Ss → Ss
  | .mk (.next env) S => .mk (.next (env.set i none)) S
  | .mk (.brk env) S => .mk (.brk (env.set i none)) S
  | .mk (.cnt env) S => .mk (.cnt (env.set i none)) S
  | .mk (.ret d) S => .mk (.ret d) S
  | .mk (.exc _ _) _ => .stk
  | .stk => .stk
def zTryAs (i : Nat) (cat : List (Str × Bool)) (fb : SM) (fh : XV → SM) : SM := fun env S => match fb env S with
  | .mk (.exc x env1) S1 => if i < env1.length then match cat.lookup x.nm with
      | some true => unhot i (fh x (env1.set i none) S1)
      | some false => .mk (.exc x env1) S1
      | none => .stk
    else .stk
  | r => r
section
variable {K : PySem.W.Frag} {mg : Mg} {Wout : WX} {i : Nat} {c : Value} {cat : List (Str × Bool)} {fb : SM} {fh : XV → SM} {tb : WX → TS} {ts : Addr → Value → Option Addr → TS}
end
section
variable {X : Cx} {x n : Str} {c : Value} {i : Nat} {body suite : List Stmt} {b₀ : Stmt} {np pos pos' : Pos} {tb : WX → TS} {ts : Addr → Value → Option Addr → TS} {Wout : WX} {cat : List (Str × Bool)} {fb : SM} {fh : XV → SM}
end
end Z

/-! Z24: what a suite asks of the error that it holds: a field, isinstance with a class, with a tuple of classes. -/
namespace Z
open PySem L2
open PySem.Spec PyProof.Rows
variable [Tabs]
/-- the field n of an error whose class is one of L -/
def zXf (L : List Str) (n : Str) (x : XV) : EM D := fun _ S => if L.contains x.nm then match x.fs with
    | some fs => match fs.lookup n with
      | some d => .ok d S
      | none => .stk
    | none => .stk
  else .stk
structure FldC (K : PySem.W.Frag) (mg : Mg) (n nm : Str) : Prop where
  ex : ∃ C, mg nm = some (.ref C) ∧ XfC K C ∧ PySem.W.findIn K (.ref C) n = some none
/-- isinstance by the class's name -/
def zXis (tab : List (Str × Bool)) (x : XV) : EM D := fun _ S => match tab.lookup x.nm with
  | some b => .ok (.bl b) S
  | none => .stk
structure IsC (K : PySem.W.Frag) (mg : Mg) (us : List Value) (nm : Str) (b : Bool) : Prop where
  ex : ∃ C, mg nm = some (.ref C) ∧ ExcC K C ∧ PySem.W.kitAny K (.ref C) us = some b
section
variable {X : Cx} {a C : Addr} {oe : Obj} {cls : Value} {d : Option Addr} {pn : List (Addr × Obj)}
end
section
variable {K : PySem.W.Frag} {mg : Mg} {a : Addr} {cls : Value} {d : Option Addr} {x : XV} {i : Nat} {n : Str} {W : WX}
end
section
variable {X : Cx} {a : Addr} {oe : Obj} {cls : Value} {d : Option Addr} {pn : List (Addr × Obj)} {x : XV} {i : Nat} {v n : Str} {W : WX} {p p0 pos p1 tpos : Pos} {tk : Nat}
end
end Z

/-! Z25: raise C(e), C an own class whose __init__ stores its one argument in a field of that name. -/
namespace Z
open PySem L2
open PySem.Spec PyProof.Rows
variable [Tabs]
def spI (C : Addr) (f : Str) : Sp := fun vs H Q _ => ∃ (a : Addr) (y : V), vs = [.ref a, y] ∧ H a = some (exo a C none) ∧ ∀ dx, H dx = none → dx ≠ a → Q .non (upd (upd H dx (exd dx [(f, y)])) a (exo a C (some dx)))
/-- what the class must say, so that one of it can be made and raised -/
structure MkC (P : Program) (w : World) (K : PySem.W.Frag) (mg : Mg) (base : Heap) (f nm : Str) : Prop where
  ex : ∃ (C fI : Addr) (fd : FuncData), mg nm = some (.ref C) ∧ OexC K C ∧ PySem.W.findIn K (.ref C) f = some none ∧ PySem.W.findIn K (.ref C) "__init__" = some (some (.ref fI)) ∧ PySem.W.typeIn K (.ref fI) = some (.type "function") ∧
    Binds K fd ["self", f] [] ∧ FnOk P w K mg base (L2.CX P w) 1 fI fd ["self", f] (spI C f)
def zRaise1 (nm f : Str) (fe : EM D) : SM := fun env S => (fe env S).st env fun d S1 => .mk (.exc ⟨nm, some [(f, d)]⟩ env) S1
section
variable {X : Cx} {W : WX} {nm f : Str} {e : Expr} {te : TE} {fe : EM D} {p pos pos2 : Pos}
end
end Z

/-! Z26: a tuple that is not empty, times an int from 1 on. -/
namespace Z
open PySem L2
open PySem.Spec PyProof.Rows
variable [Tabs]
end Z

/-! Z27: raise C(), C an own class over ValueError without an __init__ of its own. -/
namespace Z
open PySem L2
open PySem.Spec PyProof.Rows
variable [Tabs]
/-- what such a class must say; bm: its own bases up to ValueError's line -/
structure Mk0 (K : PySem.W.Frag) (mg : Mg) (nm : Str) : Prop where
  ex : ∃ (C : Addr) (bm : List Value), mg nm = some (.ref C) ∧ PySem.W.excIn K C bm "ValueError.__new__" = true ∧ PySem.ExcBaseFacts "ValueError" "ValueError.__new__" "ValueError.__init__" bm ∧ PySem.W.keepIn K (.ref C) = true ∧
    PySem.W.subIn K (.ref C) (.type "BaseException") = some true ∧ PySem.W.typeIn K (.ref C) = some (.type "type")
def zRaise0 (nm : Str) : SM := fun env S => .mk (.exc ⟨nm, none⟩ env) S
section
variable {X : Cx} {W : WX} {nm : Str} {p pos pos2 : Pos}
end
end Z

/-! Z28: xs.remove(k) of a list of ints in which k is. -/
namespace Z
open PySem L2
open PySem.Spec PyProof.Rows
variable [Tabs]
end Z

/-! Z29: xs.extend(t) of a tuple t. -/
namespace Z
open PySem L2
open PySem.Spec PyProof.Rows
variable [Tabs]
end Z

/-! Z30: xs[::-1] of a tuple, or of a list. -/
namespace HT
open PySem PyProof.Rows PySem.Spec
section
variable {prog : Program} {A : Around} {w : World} {E : Value → Shared → Prop} {s : Shared}
end
end HT
namespace Z
open PySem L2
open PySem.Spec PyProof.Rows
variable [Tabs]
end Z
namespace Z
open PySem L2
open PySem.Spec PyProof.Rows
variable [Tabs]
def zBackT (a : EM D) : EM D := fun env S => (a env S).bnd fun x S1 => match x with
  | .tup ds => .ok (.tup ds.reverse) S1
  | _ => .stk
end Z

/-! Z31: str of an int. -/
namespace Z
open PySem L2
open PySem.Spec PyProof.Rows
variable [Tabs]
end Z

namespace Z
open PySem L2
open PySem.Spec PyProof.Rows
variable [Tabs]
/-! ### dicts whose keys are tuples -/
def dKeys : List D → Option (List Key)
  | [] => some []
  | d :: ds => match dKey d, dKeys ds with
    | some k, some ks => some (k :: ks)
    | _, _ => none
def dKeyT : D → Option (List Key)
  | .tup ds => dKeys ds
  | _ => none
section
variable {K : PySem.W.Frag} {mg : Mg} {fr : List (Addr × HO)} {m : List Addr} {Hc : Hp} {S : Sto} {H : Hp}
end
end Z

namespace Z
open PySem L2
open PySem.Spec PyProof.Rows
variable [Tabs]
/-! ### writing into a dict whose keys are tuples -/
def dPutT (x k v : D) (S : Sto) : Option Sto := match x, dKeyT k with
  | .ptr n, some key => match S[n]? with
    | some (.dtt false ks ds) => if ks.length < dctMax ∧ ks.Nodup then (match findK ks key with
      | some i => some (S.set n (.dtt false ks (ds.set i v)))
      | none => some (S.set n (.dtt false (ks ++ [key]) (ds ++ [v])))) else none
    | _ => none
  | _, _ => none
section
variable {K : PySem.W.Frag} {mg : Mg} {fr : List (Addr × HO)} {m : List Addr} {Hc : Hp} {S : Sto} {H : Hp}
end
def zPutT (o i e : EM D) : SM := fun env S => (e env S).st env fun v S1 => (o env S1).st env fun x S2 => (i env S2).st env fun y S3 => match dPutT x y v S3 with
  | some S4 => .mk (.next env) S4
  | none => .stk
/-- {} -/
def zDctN : EM D := fun env S => .ok (.ptr S.length) (S ++ [.dct [] []])
def zDttN : EM D := fun env S => .ok (.ptr S.length) (S ++ [.dtt false [] []])
section
variable {X : Cx} {K : PySem.W.Frag} {W : WX} {pos pos' tpos : Pos} {o i e : Expr} {to ti te : TE} {fo fi fe : EM D}
end
end Z

namespace Z
open PySem L2
open PySem.Spec PyProof.Rows
variable [Tabs]
open Classical in
noncomputable def delH (Hc : Hp) (a : Addr) : Hp := fun b => if b = a then none else Hc b
theorem delH_ne {Hc : Hp} {a b : Addr} (h : b ≠ a) : delH Hc a b = Hc b := by unfold delH; rw [if_neg h]
section
variable {K : PySem.W.Frag} {Hc : Hp} {m : List Addr} {a : Addr} {od : Obj} {kvs : List (List Key × V)}
theorem del_get (h : Hc a = some (.frz od (.dT kvs))) {b : Addr} {u : HO} (e : Hc b = some u) (n : u ≠ .frz od (.dT kvs)) : delH Hc a b = some u := by
  rw [delH_ne fun q => n (by rw [q, h] at e; exact (Option.some.inj e).symm)]; exact e
theorem del_sq (h : Hc a = some (.frz od (.dT kvs))) {b : Addr} {vs : List V} (e : SqT K Hc b vs) : SqT K (delH Hc a) b vs := by
  exact e.imp (Or.imp (fun q => del_get h q (by simp)) fun ⟨o, q⟩ => ⟨o, del_get h q (by simp)⟩) id
theorem del_sl (h : Hc a = some (.frz od (.dT kvs))) {b : Addr} {vs : List V} (e : SqL K Hc b vs) : SqL K (delH Hc a) b vs := by
  rcases e with (q | ⟨o, q⟩) | q
  · exact .inl (.inl (del_get h q (by simp)))
  · exact .inl (.inr ⟨o, del_get h q (by simp)⟩)
  · exact .inr q
mutual
theorem Rep.del (h : Hc a = some (.frz od (.dT kvs))) : ∀ (d : D) (v : V), Rep K Hc m d v → Rep K (delH Hc a) m d v
  | .non, _, r => r
  | .bl _, _, r => r
  | .int _, _, r => r
  | .str _, _, r => r
  | .tup ds, v, ⟨b, vs, e, q, r⟩ => ⟨b, vs, e, del_get h q (by simp), Reps.del h ds vs r⟩
  | .rot ds, v, ⟨b, vs, e, q, r⟩ => ⟨b, vs, e, del_sq h q, Reps.del h ds vs r⟩
  | .ty _, _, r => r
  | .lst ds, v, ⟨b, vs, e, q, r⟩ => ⟨b, vs, e, del_get h q (by simp), Reps.del h ds vs r⟩
  | .ptr n, v, r => r
  | .rol ns, v, ⟨b, e, q⟩ => ⟨b, e, del_sl h q⟩
  | .rng _ _, v, ⟨b, e, q⟩ => ⟨b, e, del_get h q (by simp)⟩
  | .dct _ ds, v, ⟨b, vs, e, q, l, r⟩ => ⟨b, vs, e, del_get h q (by simp), l, Reps.del h ds vs r⟩
theorem Reps.del (h : Hc a = some (.frz od (.dT kvs))) : ∀ (ds : List D) (vs : List V), Reps K Hc m ds vs → Reps K (delH Hc a) m ds vs
  | [], _, r => r
  | d :: ds, vs, ⟨v, r, e, h1, h2⟩ => ⟨v, r, e, Rep.del h d v h1, Reps.del h ds r h2⟩
end
theorem COk.del {H H' : Hp} (h : Hc a = some (.frz od (.dT kvs))) {b : Addr} (hb : b ≠ a) (hH : H' b = H b) : ∀ {c : C}, COk K Hc m H b c → COk K (delH Hc a) m H' b c
  | .lst ds, ⟨h0, vs, h1, h2⟩ => ⟨by rw [delH_ne hb]; exact h0, vs, by rw [hH]; exact h1, Reps.del h ds vs h2⟩
  | .gone, ⟨o, h1, h2⟩ => ⟨o, by rw [hH]; exact h1, h2⟩
  | .dct ks ds, ⟨h0, vs, h1, hl, h2⟩ => ⟨by rw [delH_ne hb]; exact h0, vs, by rw [hH]; exact h1, hl, Reps.del h ds vs h2⟩
  | .dtt false ks ds, ⟨h0, vs, h1, hl, h2⟩ => ⟨by rw [delH_ne hb]; exact h0, vs, by rw [hH]; exact h1, hl, Reps.del h ds vs h2⟩
  | .dtt true ks ds, ⟨od2, vs, h1, hl, h2⟩ => ⟨od2, vs, by rw [delH_ne hb]; exact h1, hl, Reps.del h ds vs h2⟩
  | .obj nm ks ds, ⟨h0, dx, vs, h1, hl, h2⟩ => ⟨by rw [delH_ne hb]; exact h0, dx, vs, by rw [hH]; exact h1, hl, Reps.del h ds vs h2⟩
variable {fr : List (Addr × HO)} {S : Sto} {H : Hp} {n : Nat}
/-- a tuple that lies somewhere goes into the core -/
theorem Zh.core (z : Zh K fr m Hc S H) {q : Addr} {us : List V} (hq : H q = some (.tup us)) : ∃ Hc', Zh K fr m Hc' S H ∧ Ex m Hc m Hc' ∧ Hc' q = some (.tup us) := by
  cases hc : Hc q with
  | some o =>
    have := z.sub _ _ hc
    rw [hq] at this
    cases this
    exact ⟨Hc, z, Ex.refl _ _, hc⟩
  | none =>
    have x : Ex m Hc m (upd Hc q (.tup us)) := ⟨⟨[], by simp⟩, fun b u e => by rw [upd_ne (ne_of_none e hc)]; exact e⟩
    have qm : ∀ (k : Nat) (b : Addr) (c : C), m[k]? = some b → S[k]? = some c → b ≠ q := fun k b c h1 h2 e => by
      subst e
      have := z.cel k b c h1 h2
      cases c with
      | lst ds => obtain ⟨_, vs, h3, _⟩ := this; rw [hq] at h3; cases h3
      | gone => obtain ⟨o, h3, h4⟩ := this; rw [hq] at h3; exact h4 us (Option.some.inj h3).symm
      | dct ks ds => obtain ⟨_, vs, h3, _⟩ := this; rw [hq] at h3; cases h3
      | dtt lk ks ds =>
        cases lk with
        | false => obtain ⟨_, vs, h3, _⟩ := this; rw [hq] at h3; cases h3
        | true => obtain ⟨od2, vs, h3, _⟩ := this; rw [hc] at h3; cases h3
      | obj nm ks ds => obtain ⟨_, dx, vs, h3, _⟩ := this; rw [hq] at h3; cases h3
    have nm : q ∉ m := fun h => by
      obtain ⟨k, hk⟩ := List.getElem?_of_mem h
      have hl : k < S.length := by rw [← z.len]; exact (List.getElem?_eq_some_iff.mp hk).1
      exact qm k q _ hk (List.getElem?_eq_getElem hl) rfl
    refine ⟨upd Hc q (.tup us), ⟨fun b u e => ?_, z.len, z.nd, fun k b c h1 h2 => ?_, fun p hp => ?_, z.fnd, z.nt, fun P hP => let h := z.tab P hP; ⟨h.1, ?_, h.2.2⟩⟩, x, upd_same⟩
    · by_cases hb : b = q
      · subst hb; rw [upd_same] at e; rw [hq, e]
      · rw [upd_ne hb] at e; exact z.sub b u e
    · refine COk.mono x ?_ rfl (z.cel k b c h1 h2)
      rw [upd_ne (qm k b c h1 h2)]
      cases e : Hc b with
      | none => exact .inl rfl
      | some u => exact .inr ⟨u, rfl⟩
    · obtain ⟨h1, h2, h3⟩ := z.frm p hp
      have np : p.1 ≠ q := fun e => z.nt p hp us (by rw [e, hq] at h1; exact (Option.some.inj h1).symm)
      exact ⟨h1, by rw [upd_ne np]; exact h2, h3⟩
    · have np : P ≠ q := fun e => by
        obtain ⟨⟨ps, g, _⟩, _⟩ := h
        rw [e, hq] at g; cases g
      rw [upd_ne np]; exact h.2.1
end
end Z

namespace Z
open PySem L2
open PySem.Spec PyProof.Rows
variable [Tabs]
theorem Ze.del {K Hc m env} {σ : L2.St} {a : Addr} {od : Obj} {kvs : List (List Key × V)} (h : Hc a = some (.frz od (.dT kvs))) (z : Ze K Hc m env σ) : Ze K (delH Hc a) m env σ :=
  ⟨z.len, fun i d e => let ⟨v, h1, h2⟩ := z.at_ i d e; ⟨v, h1, Rep.del h d v h2⟩, trivial⟩
section
variable {X : Cx} {W : WX} {pos : Pos} {tg : Expr} {body : List Stmt} {t : TG} {sl : List Nat} {g : GM} {tb : TS} {fb : SM} {i : Nat} {iter : Expr}
end
end Z

namespace Z
open PySem L2
open PySem.Spec PyProof.Rows
variable [Tabs]
def zRange3 (a : EM (List D)) : EI := fun env S => (a env S).bnd fun xs S1 => match xs with
  | [.int i, .int j, .int c] => if c = -1 ∧ (j ≤ 1000000 ∧ -1000000 ≤ j) ∧ (i ≤ 1000000 ∧ -1000000 ≤ i) then .ok ⟨(List.range (i - j).toNat).map fun k => D.int (i - (k : Nat)), none⟩ S1 else .stk
  | _ => .stk
section
variable {X : Cx} {W : WX} {tg a b c : Expr} {p pos : Pos} {ta : TA} {fa : EM (List D)}
end
end Z

namespace Z
open PySem L2
open PySem.Spec PyProof.Rows
variable [Tabs]
section
variable {X : Cx} {W : WX} {i o : Expr} {pos : Pos} {ti to : TE} {fi fo : EM D}
end
end Z

namespace Z
open PySem L2
open PySem.Spec PyProof.Rows
variable [Tabs]
end Z

namespace Z
open PySem L2
open PySem.Spec PyProof.Rows
variable [Tabs]
/-! ### tuples that are constants of the program -/
def KTup (K : PySem.W.Frag) (a : Addr) (vs : List V) : Prop := ∃ (o : Obj) (its : Array Value) (n : Nat), K.lookup a = some o ∧ o.cls = .type "tuple" ∧ o.data = .seq its n ∧ its.size ≤ sizeLine ∧ Vals vs its.toList
mutual
def KD (K : PySem.W.Frag) : D → V → Prop
  | .non, v => v = .non
  | .bl b, v => v = .bl b
  | .int i, v => v = .int i
  | .str x, v => v = .str x
  | .rot ds, v => ∃ a vs, v = .ref a ∧ KTup K a vs ∧ KDs K ds vs
  | _, _ => False
def KDs (K : PySem.W.Frag) : List D → List V → Prop
  | [], vs => vs = []
  | d :: ds, vs => ∃ v r, vs = v :: r ∧ KD K d v ∧ KDs K ds r
end
mutual
theorem KD.rep {K : PySem.W.Frag} {Hc : Hp} {m : List Addr} : ∀ (d : D) (v : V), KD K d v → Rep K Hc m d v
  | .non, _, h => h
  | .bl _, _, h => h
  | .int _, _, h => h
  | .str _, _, h => h
  | .rot ds, v, h => by
    obtain ⟨a, vs, e, k, r⟩ := h
    exact ⟨a, vs, e, .inr k, KDs.rep ds vs r⟩
  | .tup _, _, h => h.elim
  | .lst _, _, h => h.elim
  | .ptr _, _, h => h.elim
  | .rol _, _, h => h.elim
  | .rng _ _, _, h => h.elim
  | .ty _, _, h => h.elim
  | .dct _ _, _, h => h.elim
theorem KDs.rep {K : PySem.W.Frag} {Hc : Hp} {m : List Addr} : ∀ (ds : List D) (vs : List V), KDs K ds vs → Reps K Hc m ds vs
  | [], _, h => h
  | d :: ds, _, h => by
    obtain ⟨v, r, e, h1, h2⟩ := h
    exact ⟨v, r, e, KD.rep d v h1, KDs.rep ds r h2⟩
end
end Z

namespace Z
open PySem L2
open PySem.Spec PyProof.Rows
variable [Tabs]
/-! ### not, of a value that is no bool -/
def notTR (o : Option Bool) (S : Sto) : Rs D := match o with
  | some b => .ok (.bl (!b)) S
  | none => .stk
def zNotT (a : EM D) : EM D := fun env S => (a env S).bnd fun x S1 => notTR (truD S1 x) S1
section
variable {X : Cx} {W : WX} {K : PySem.W.Frag} {pos : Pos} {a : Expr} {ta : TE} {fa : EM D}
end
end Z

namespace Z
open PySem L2
open PySem.Spec PyProof.Rows
variable [Tabs]
/-- the field f of the instance x of the class nm -/
def fldD (nm f : Str) (x : D) (S : Sto) : Option D := match x with
  | .ptr n => match S[n]? with
    | some (.obj nm2 ks ds) => if nm2 = nm then (findK ks f).bind fun i => ds[i]? else none
    | _ => none
  | _ => none
def oR (o : Option D) (S : Sto) : Rs D := match o with
  | some d => .ok d S
  | none => .stk
def zFld (nm f : Str) (fo : EM D) : EM D := fun env S => (fo env S).bnd fun x S1 => oR (fldD nm f x S1) S1
/-- what the class of this name must have; L: names that are no attribute of it -/
structure OCls (K : PySem.W.Frag) (nm : Str) (L : List Str) : Prop where
  cls : Cls K (Tabs.cls nm)
  no : ∀ f ∈ L, NoAttr K (Tabs.cls nm) f
section
variable {K : PySem.W.Frag} {mg : Mg} {fr : List (Addr × HO)} {m : List Addr} {Hc : Hp} {S : Sto} {H : Hp}
end
section
variable {X : Cx} {W : WX} {K : PySem.W.Frag} {nm f : Str} {L : List Str} {o e : Expr} {pos pos2 : Pos} {to te : TE} {fo fe : EM D}
/-- o.f = e -/
def putFD (nm f : Str) (x v : D) (S : Sto) : Option Sto := match x with
  | .ptr n => match S[n]? with
    | some (.obj nm2 ks ds) => if nm2 = nm ∧ ks.length < 1000 then (match findK ks f with
      | some i => some (S.set n (.obj nm2 ks (ds.set i v)))
      | none => some (S.set n (.obj nm2 (ks ++ [f]) (ds ++ [v])))) else none
    | _ => none
  | _ => none
def nxO (env : En) (o : Option Sto) : Ss := match o with
  | some S => .mk (.next env) S
  | none => .stk
def zPutF (nm f : Str) (fo fe : EM D) : SM := fun env S => (fe env S).st env fun v S1 => (fo env S1).st env fun x S2 => nxO env (putFD nm f x v S2)
end
end Z

namespace Z
open PySem L2
open PySem.Spec PyProof.Rows
variable [Tabs]
/-- the promise of a method m of the class nm -/
structure FZM (P : Program) (w : World) (K : PySem.W.Frag) (mg : Mg) (base : Heap) (k : Nat) (nm m : Str) (st : Stmt) (ps : List Str) (F : List D → Sto → Rs D) : Prop where
  ex : ∃ (f : Addr) (fd : FuncData) (qual : Str), Meth K (Tabs.cls nm) m f ∧ Fun K m qual st f fd ∧ Binds K fd ps [] ∧ FnOk P w K mg base (L2.CX P w) k f fd ps (zSp K mg ps.length F)
/-- a class that is made by its name -/
structure MkO (K : PySem.W.Frag) (mg : Mg) (nm : Str) : Prop where
  makes : PySem.W.makesIn K (Tabs.cls nm) = true
  kp : PySem.W.keepIn K (.ref (Tabs.cls nm)) = true
  gl : mg nm = some (.ref (Tabs.cls nm))
section
variable {P : Program} {w : World} {K : PySem.W.Frag} {mg : Mg} {base : Heap}
end
/-- is this an instance of nm without an attribute of this name -/
def isO (nm m : Str) (x : D) (S : Sto) : Bool := match x with
  | .ptr n => match S[n]? with
    | some (.obj nm2 ks _) => decide (nm2 = nm) && (findK ks m).isNone
    | _ => false
  | _ => false
def zMethO (nm m : Str) (n : Nat) (F : List D → Sto → Rs D) (fo : EM D) (f : EM (List D)) : EM D := fun env S => (fo env S).bnd fun x S1 => if isO nm m x S1 = true then (f env S1).bnd fun xs S2 => if (x :: xs).length = n then (F (x :: xs) S2).nox else .stk else .stk
def isNon : D → Bool
  | .non => true
  | _ => false
def zMake (nm : Str) (n : Nat) (F : List D → Sto → Rs D) (f : EM (List D)) : EM D := fun env S => (f env S).bnd fun xs S1 => if (D.ptr S1.length :: xs).length = n then (F (D.ptr S1.length :: xs) (S1 ++ [.obj nm [] []])).nox.bnd fun d S2 => if isNon d = true then .ok (.ptr S1.length) S2 else .stk else .stk
section
variable {X : Cx} {K : PySem.W.Frag} {mg : Mg} {W : WX} {pos p apos : Pos} {x nm m : Str} {L : List Str} {st : Stmt} {ps : List Str} {k n : Nat} {F : List D → Sto → Rs D} {o : Expr} {es : List Expr} {to : TE} {t : TA} {fo : EM D} {f : EM (List D)}
end
end Z

namespace Z
open PySem L2
open PySem.Spec PyProof.Rows
variable [Tabs]
/-! ### methods that call themselves -/
section
variable {P : Program} {w : World} {K : PySem.W.Frag} {mg : Mg} {base : Heap} {nm m qual : Str} {st : Stmt} {f : Addr} {fd : FuncData} {ps : List Str} {F : List D → Sto → Rs D}
theorem FZM.mono {j k : Nat} (h : FZM P w K mg base j nm m st ps F) (hl : j ≤ k) : FZM P w K mg base k nm m st ps F := by
  obtain ⟨a, b, c, h1, h2, h3, ok⟩ := h.ex
  exact ⟨a, b, c, h1, h2, h3, ok.mono hl⟩
end
end Z

namespace Z
open PySem L2
open PySem.Spec PyProof.Rows
variable [Tabs]
section
variable {X : Cx} {K : PySem.W.Frag}
end
section
variable {X : Cx} {W : WX} {pos p p1 pos1 : Pos} {a b : Expr} {ta tb : TE} {fa fb : EM D}
end
end Z

namespace Z
open PySem L2
open PySem.Spec PyProof.Rows
variable [Tabs]
section
variable {X : Cx} {W : WX} {apos cpos : Pos} {name : Str} {id : String} {o : Expr} {to : TE} {fo : EM D} {r : V → List V → Hp → VK → Prop} {op : D → List D → Sto → Rs D}
end
end Z

namespace Z
open PySem L2
open PySem.Spec PyProof.Rows
variable [Tabs]
section
variable {K : PySem.W.Frag} {mg : Mg} {Wout : WX} {c : Value} {cat : List (Str × Bool)} {fb fh : SM} {tb : WX → TS} {ts : Addr → Value → Option Addr → TS}
end
section
variable {X : Cx} {x : Str} {c : Value} {body suite : List Stmt} {b₀ : Stmt} {np pos pos' : Pos} {tb : WX → TS} {ts : Addr → Value → Option Addr → TS} {Wout : WX} {cat : List (Str × Bool)} {fb fh : SM}
end
end Z

namespace Z
open PySem L2
open PySem.Spec PyProof.Rows
variable [Tabs]
end Z

namespace Z
open PySem L2
open PySem.Spec PyProof.Rows
variable [Tabs]
/-! ### {k: v} of one tuple; k not in d -/
section
variable {prog : Program} {w : World} {A : Around} {E : Value → Shared → Prop} {s : Shared} {env : Env} {k v : Expr} {pos : Pos}
end
section
variable {X : Cx} {K : PySem.W.Frag} {W : WX} {k v i o : Expr} {pos : Pos} {tk tv ti to : TE} {fk fv fi fo : EM D}
end
end Z

namespace Z
open PySem L2
open PySem.Spec PyProof.Rows
variable [Tabs]
section
variable {x : D} {S : Sto} {rs : List (List Int)}
end
end Z

namespace Z
open PySem L2
open PySem.Spec PyProof.Rows
variable [Tabs]
/-! ### sorted([()]) -/
section
open PySem.W PyProof.Rows PySem.Calls
variable {prog : Program} {w : World} {s : Shared} {A : Around} {E : Value → Shared → Prop}
end
end Z

/-! Z51: any of a list of ints; the sum of a tuple of ints; every other item of a tuple, xs[::2] and xs[1::2]. -/
namespace Z
open PySem L2
open PySem.Spec PyProof.Rows
variable [Tabs]
def rAnyI (K : PySem.W.Frag) : List V → Hp → VK → Prop := fun vs H Q => ∃ (a : Addr) (ns : List Int), vs = [V.ref a] ∧ SqL K H a (ns.map V.int) ∧ Q (.bl (ns.any fun i => i != 0)) H
theorem plain_nums : ∀ ns : List Int, PyData.plainAll (ns.map PyData.int) = true
  | [] => rfl
  | _ :: ns => plain_nums ns
theorem truthy_nums : ∀ ns : List Int, (ns.map PyData.int).any PyData.truthy = ns.any fun i => i != 0
  | [] => rfl
  | n :: ns => by
    show (n != 0 || (ns.map PyData.int).any PyData.truthy) = (n != 0 || ns.any fun i => i != 0)
    rw [truthy_nums ns]
theorem cr_anyI {X : Cx} {K : PySem.W.Frag} (hK : X.K = K) (hc : X.calm = true) : CallR X (.builtin "any") (rAnyI K) := by
  subst hK
  intro pn sh st H xs us Q I r hw
  obtain ⟨a, ns, e, hL, q⟩ := hw
  subst e
  obtain ⟨its, hv, hcell, _⟩ := I.list hL
  rw [Vals.ref1 r]
  refine PySem.W.any_list_data (xs := ns.map PyData.int) (I.ok.hd hc) hcell.isList (hv.ints.reads sh.heap) (plain_nums ns) (fun x hx => ?_) fun h2 tk hk => ⟨.bl (ns.any fun i => i != 0), H, I.kept hk, ?_, q⟩
  · obtain ⟨n, _, e⟩ := List.mem_map.mp hx
    rw [← e]; trivial
  · rw [truthy_nums]; rfl
def anyIR : Option (List Int) → Sto → Rs D
  | some ns, S => .ok (.bl (ns.any fun i => i != 0)) S
  | none, _ => .stk
def dAnyI (xs : List D) (S : Sto) : Rs D := match xs with
  | [d] => anyIR ((seqOf d S).bind intsOf) S
  | _ => .stk
theorem cs_anyI {K mg} : CS K mg (rAnyI K) dAnyI := by
  intro fr m Hc S H xs ds w Q z r p
  cases ds with
  | nil => exact False.elim p
  | cons d ds =>
    cases ds with
    | cons _ _ => exact False.elim p
    | nil =>
      obtain ⟨v, rfl, r1⟩ := r.one_of
      have p : Pst _ _ _ _ _ _ _ _ (anyIR ((seqOf d S).bind intsOf) S) := p
      cases e : seqOf d S with
      | none => rw [e] at p; exact False.elim p
      | some es =>
        rw [e, Option.bind_some] at p
        cases e2 : intsOf es with
        | none => rw [e2] at p; exact False.elim p
        | some ns =>
          rw [e2] at p
          obtain ⟨a, vs, rfl, q, rr⟩ := z.seq r1 e
          rw [intsOf_some e2] at rr
          have := rr.ints
          subst this
          exact ⟨a, ns, rfl, q, p.use z rfl⟩
/-! ### the sum of a tuple -/
def rSumT (K : PySem.W.Frag) : List V → Hp → VK → Prop := fun vs H Q => ∃ (a : Addr) (ns : List Int), vs = [V.ref a] ∧ SqT K H a (ns.map V.int) ∧ Q (.int ns.sum) H
theorem cr_sumT {X : Cx} {K : PySem.W.Frag} (hK : X.K = K) (hc : X.calm = true) : CallR X (.builtin "sum") (rSumT K) := by
  subst hK
  intro pn sh st H xs us Q I r hw
  obtain ⟨a, ns, e, hT, q⟩ := hw
  subst e
  obtain ⟨its, hv, htup, _⟩ := I.tuple hT
  have hi := hv.ints
  obtain ⟨ys, hys⟩ := hi.allInts.items
  have hn : numsOf its.toArray.toList = ns := hi.numsOf
  rw [hys, nums_intItems] at hn
  rw [hys] at htup
  rw [Vals.ref1 r]
  refine PySem.W.ktm_sumG (I.ok.hd hc) htup fun h2 tk t2 hk => ⟨.int ns.sum, H, I.kept hk, ⟨t2, ?_⟩, q⟩
  rw [preSum_eq, (List.take_of_length_le (by simp)), hn]
def sumIR : Option (List Int) → Sto → Rs D
  | some ns, S => .ok (.int ns.sum) S
  | none, _ => .stk
def dSumT (xs : List D) (S : Sto) : Rs D := match xs with
  | [.tup ds] => sumIR (intsOf ds) S
  | _ => .stk
theorem cs_sumT {K mg} : CS K mg (rSumT K) dSumT := by
  intro fr m Hc S H xs ds w Q z r p
  cases ds with
  | nil => exact False.elim p
  | cons d ds =>
    cases ds with
    | cons _ _ => cases d <;> exact False.elim p
    | nil =>
      obtain ⟨v, rfl, r1⟩ := r.one_of
      cases d <;> first | exact False.elim p | skip
      rename_i es
      have p : Pst _ _ _ _ _ _ _ _ (sumIR (intsOf es) S) := p
      cases e2 : intsOf es with
      | none => rw [e2] at p; exact False.elim p
      | some ns =>
        rw [e2] at p
        obtain ⟨a, vs, rfl, hq, rr⟩ := r1
        rw [intsOf_some e2] at rr
        have := rr.ints
        subst this
        exact ⟨a, ns, rfl, SqT.of (z.sub _ _ hq), p.use z rfl⟩
end Z
namespace HT
open PySem PyProof.Rows PySem.Spec
/-- the first item, the third, .. -/
def evens {α : Type} : List α → List α
  | [] => []
  | [x] => [x]
  | x :: _ :: xs => x :: evens xs
theorem evens_map {α β : Type} (f : α → β) : ∀ l : List α, evens (l.map f) = (evens l).map f
  | [] => rfl
  | [x] => rfl
  | x :: y :: xs => by
    show f x :: evens (xs.map f) = f x :: (evens xs).map f
    rw [evens_map f xs]
theorem evens_pick {α : Type} : ∀ ys : List α, ((List.range ((ys.length + 1) / 2)).filterMap fun (k : Nat) => ys[2 * k]?) = evens ys
  | [] => by simp [evens]
  | [x] => by simp [List.range_succ, evens]
  | x :: y :: ys => by
    rw [show ((x :: y :: ys).length + 1) / 2 = (ys.length + 1) / 2 + 1 by simp only [List.length_cons]; omega, List.range_succ_eq_map, List.filterMap_cons, List.filterMap_map]
    show x :: _ = x :: evens ys
    rw [← evens_pick ys]
    congr 1
theorem evens_len {α : Type} : ∀ ys : List α, (evens ys).length ≤ ys.length
  | [] => Nat.le_refl _
  | [x] => Nat.le_refl _
  | x :: y :: ys => by
    show (evens ys).length + 1 ≤ ys.length + 1 + 1
    have := evens_len ys
    omega
section
variable {prog : Program} {A : Around} {w : World} {E : Value → Shared → Prop} {s : Shared}
/-- where a slice's part begins -/
def FromAt (lo : Option Int) (b : Nat) : Prop := lo = none ∧ b = 0 ∨ lo = some (b : Int)
theorem s2_adjust {lo : Option Int} {b : Nat} (h : FromAt lo b) (n : Nat) : Builtin.Slice.sliceAdjust lo none 2 (n : Int) = (((min b n : Nat) : Int), (n : Int)) := by
  unfold Builtin.Slice.sliceAdjust; rcases h with ⟨rfl, rfl⟩ | rfl
  · simp
  · have h1 : ¬ ((b : Int) < 0) := by omega
    simp only [show ¬ ((2 : Int) < 0) by decide, if_false, h1]
    congr 1
    omega
theorem s2_places (b n : Nat) : Builtin.Slice.slicePlaces (((min b n : Nat) : Int)) (n : Int) 2 = (n - b + 1) / 2 := by
  unfold Builtin.Slice.slicePlaces; rw [if_pos (by decide)]
  by_cases h : b < n
  · rw [if_pos (by omega)]; omega
  · rw [if_neg (by omega)]; omega
theorem s2_pick (b : Nat) (xs : List Value) : ((List.range ((xs.length - b + 1) / 2)).filterMap fun (k : Nat) => xs.toArray[(((min b xs.length : Nat) : Int) + (k : Int) * 2).toNat]?) = evens (xs.drop b) := by
  rw [← evens_pick, List.length_drop]
  refine congrArg (fun f => List.filterMap f _) (funext fun k => ?_)
  rw [List.getElem?_toArray, List.getElem?_drop]
  by_cases h : b ≤ xs.length
  · congr 1; omega
  · rw [List.getElem?_eq_none (by omega), List.getElem?_eq_none (by omega)]
theorem s2_applied {sl : Addr} {vl vs : Value} {lo : Option Int} {b n : Nat} {Q : Int × Int × Nat → Shared → Prop} (hb : FromAt lo b) (hs : s.heap.IsSliceOf sl vl .none vs) (pl : IsPart vl lo) (ps : IsPart vs (some 2)) (h : Q (((min b n : Nat) : Int), 2, (n - b + 1) / 2) s) : wpAny (model prog w) A (Builtin.Slice.sliceApplied (.ref sl) (pure (n : Int))) Q E s := by
  obtain ⟨o, ho, hc, hd⟩ := id hs
  unfold Builtin.Slice.sliceApplied; unfold Builtin.Slice.sliceFields
  refine wpAny_bind (wpAny_bind (wpAny_field ho hd (x := vl) rfl (wpAny_bind (wpAny_field ho hd (x := .none) rfl (wpAny_bind (wpAny_field ho hd (x := vs) rfl (wpAny_pure ?_)))))))
  refine wpAny_bind (slicePart_ ps ?_)
  show wpAny _ _ (if ((2 : Int) == 0) = true then _ else _) _ _ s
  rw [if_neg (by decide)]
  refine wpAny_bind (slicePart_ pl (wpAny_bind (slicePart_ .none (wpAny_bind (wpAny_pure ?_)))))
  show wpAny _ _ (match Builtin.Slice.sliceAdjust lo none 2 (n : Int) with | (lo, hi) => pure (lo, (2 : Int), Builtin.Slice.slicePlaces lo hi 2)) _ _ s
  rw [s2_adjust hb]
  show wpAny _ _ (pure (((min b n : Nat) : Int), (2 : Int), Builtin.Slice.slicePlaces (((min b n : Nat) : Int)) (n : Int) 2)) _ _ s
  rw [s2_places]
  exact wpAny_pure h
theorem s2_get {t sl : Addr} {xs : List Value} {vl vs : Value} {lo : Option Int} {b : Nat} {Q : Value → Shared → Prop} (hb : FromAt lo b) (ht : IsTup s.heap t xs.toArray) (hs : s.heap.IsSliceOf sl vl .none vs) (pl : IsPart vl lo) (ps : IsPart vs (some 2))
    (h : Q (.ref s.heap.objs.size) { s with heap := s.heap.push { cls := .type "tuple", data := .seq (evens (xs.drop b)).toArray } }) (hsz : xs.length ≤ sizeLine) : wpAny (model prog w) A (getItem (.ref t) (.ref sl)) Q E s := by
  have hz : sizeOk (.seq (evens (xs.drop b)).toArray) := by
    show (evens (xs.drop b)).toArray.size ≤ sizeLine
    have := evens_len (xs.drop b)
    rw [List.size_toArray]
    rw [List.length_drop] at this
    omega
  obtain ⟨o, ho, hc, hd⟩ := id hs
  have hT : s.TypeIs (.ref sl) "slice" := ⟨o, ho, hc⟩
  unfold getItem
  try (with_reducible refine wpAny_holding ?_)
  first | (refine wpAny_bind (wpAny_pure ?_)) | skip
  refine wpAny_bind (wpAny_sequenceKey ht.typeIs (by decide +kernel) ?_)
  refine wpAny_bind (wpAny_callSpecial?_slot (name := Str.ofString "__getitem__") ht.typeIs slot_tuple_getitem (wpAny_call_entry slot_tuple_getitem ht.typeIs entry_tuple_getitem ?_ (args_tuple_getitem _ _)))
  show wpAny _ _ (Builtin.Tuple.tupleItemsOf (.ref t) >>= _) _ _ _
  refine wpAny_bind ((tupleItemsOf_ ht ?_))
  refine wpAny_bind ((wpAny_typeOf hT ?_))
  rw [if_pos (by decide +kernel)]
  rw [List.size_toArray]
  refine wpAny_bind (s2_applied hb hs pl ps ?_)
  show wpAny _ _ (if ((((min b xs.length : Nat) : Int)) == 0 && (2 : Int) == 1 && (xs.length - b + 1) / 2 == xs.length) = true then _ else _) _ _ s
  rw [if_neg (by simp), s2_pick]
  first
    | exact wpAny_bind (m := Builtin.Tuple.tupleExact _) (wpAny_newObj_type (wpAny_pure ⟨_, rfl, wpAny_pure h⟩) hz)
    | exact wpAny_bind (m := Builtin.Tuple.tupleExact _) (wpAny_newObj_type (wpAny_bind (wpAny_pure (wpAny_pure ⟨_, rfl, wpAny_pure h⟩))) hz)
    | exact wpAny_bind (wpAny_bind (m := Builtin.Tuple.tupleExact _) (wpAny_newObj_type (wpAny_pure (wpAny_pure ⟨_, rfl, wpAny_pure h⟩)) hz))
    | exact wpAny_bind (wpAny_bind (m := Builtin.Tuple.tupleExact _) (wpAny_newObj_type (wpAny_pure ⟨_, rfl, wpAny_pure h⟩) hz))
end
end HT
namespace Z
open PySem L2
open PySem.Spec PyProof.Rows
variable [Tabs]
def tStep2 (K : PySem.W.Frag) (b : Nat) (te : TE) : TE := fun σ H Q => te σ H fun x H1 => ∃ a xs, x = .ref a ∧ SqT K H1 a xs ∧ ∀ p, H1 p = none → Q (.ref p) (upd H1 p (.tup (HT.evens (xs.drop b))))
theorem vals_evens : ∀ {xs : List V} {us : List Value}, Vals xs us → Vals (HT.evens xs) (HT.evens us)
  | _, _, .nil => .nil
  | _, _, .cons r .nil => .cons r .nil
  | _, _, .cons r (.cons _ t) => .cons r (vals_evens t)
theorem Reps.evens {K : PySem.W.Frag} {Hc : Hp} {m : List Addr} : ∀ {ds : List D} {vs : List V}, Reps K Hc m ds vs → Reps K Hc m (HT.evens ds) (HT.evens vs)
  | [], _, h => by cases h; rfl
  | [d], _, ⟨v, r, e, h1, h2⟩ => by cases h2; subst e; exact ⟨v, [], rfl, h1, rfl⟩
  | d :: d2 :: ds, _, ⟨v, r, e, h1, ⟨v2, r2, e2, h3, h4⟩⟩ => by subst e2; subst e; exact ⟨v, _, rfl, h1, Reps.evens h4⟩
section
variable {X : Cx} {e : Expr} {te : TE} {k k0 : Nat} {p0 p1 p2 p3 pos : Pos}
theorem pe_step2a (he : PE X e te) : PE X (.Subscript e (.Slice none none (some (.Constant (.int 2) k p1)) p3) pos) (tStep2 X.K 0 te) := by
  refine ⟨fun pn sh σ H Q I h => ?_⟩
  refine Subscript_ (thn (he.run pn sh σ H _ I h) fun v s1 ⟨x, H1, I1, r1, q1⟩ => ?_)
  obtain ⟨b, ys, ex, hx, q⟩ := q1
  subst ex
  cases r1
  have step : PO X (some (.Constant (.int 2) k p1)) (tPart (tC (.int 2))) := po_some pe_int
  refine wpAny_Slice (thn (po_none.run pn s1 σ H1 (fun o H2 => o = none ∧ H2 = H1) I1 ⟨rfl, rfl⟩) fun vl s2 ⟨l, H2, I2, pl, el, e2⟩ => ?_)
  cases el; cases e2
  refine thn (po_none.run pn s2 σ H1 (fun o H3 => o = none ∧ H3 = H1) I2 ⟨rfl, rfl⟩) fun vu s3 ⟨u, H3, I3, pu, eu, e3⟩ => ?_
  cases eu; cases e3; cases pu
  refine thn (step.run pn s3 σ H1 (fun o H4 => o = some 2 ∧ H4 = H1) I3 ⟨2, rfl, rfl, rfl⟩) fun vs s4 ⟨o, H4, I4, ps, eo, e4⟩ => ?_
  cases eo; cases e4
  have I5 : L2.Inv X pn σ H1 { s4 with heap := s4.heap.push { cls := .type "slice", data := .fields #[vl, .none, vs] } } := I4.kept (t' := s4.toks) fun b ob q => Heap.get?_push_of_some _ q
  obtain ⟨us, r, ht, hz⟩ := I5.tuple hx
  have hlen := r.length
  show wpAny (model X.prog X.w) X.A (subscriptTail e (.Slice none none (some (.Constant (.int 2) k p1)) p3) (.ref b) (.ref s4.heap.objs.size)) (EP X pn σ Q) X.xe { s4 with heap := s4.heap.push { cls := .type "slice", data := .fields #[vl, .none, vs] } }
  refine tail_any (ops := [.ref b, .ref s4.heap.objs.size]) ht.typeIs (PyProof.Rows.slot_tuple_getitem.lookup) ?_ (by with_unfolding_all rfl)
  refine HT.s2_get (b := 0) (lo := none) (.inl ⟨rfl, rfl⟩) ht (Heap.IsSliceOf.new _ vl .none vs) pl ps ?_ (by omega)
  refine ⟨.ref _, _, I5.laid (t' := s4.toks) (o := .tup (HT.evens (ys.drop 0))) (fun b ob q => Heap.get?_push_of_some _ q) (Nat.le_refl _) ?_, rfl, q _ (I5.hok.fresh (Nat.le_refl _))⟩
  have := HT.evens_len (ys.drop 0)
  rw [List.length_drop] at this
  exact ⟨by omega, _, vals_evens (r.drop 0), ⟨_, Heap.get?_push_size _ rfl, rfl, _, rfl⟩⟩
theorem pe_step2b (he : PE X e te) : PE X (.Subscript e (.Slice (some (.Constant (.int 1) k0 p0)) none (some (.Constant (.int 2) k p1)) p3) pos) (tStep2 X.K 1 te) := by
  refine ⟨fun pn sh σ H Q I h => ?_⟩
  refine Subscript_ (thn (he.run pn sh σ H _ I h) fun v s1 ⟨x, H1, I1, r1, q1⟩ => ?_)
  obtain ⟨b, ys, ex, hx, q⟩ := q1
  subst ex
  cases r1
  have step : PO X (some (.Constant (.int 2) k p1)) (tPart (tC (.int 2))) := po_some pe_int
  have low : PO X (some (.Constant (.int 1) k0 p0)) (tPart (tC (.int 1))) := po_some pe_int
  refine wpAny_Slice (thn (low.run pn s1 σ H1 (fun o H2 => o = some 1 ∧ H2 = H1) I1 ⟨1, rfl, rfl, rfl⟩) fun vl s2 ⟨l, H2, I2, pl, el, e2⟩ => ?_)
  cases el; cases e2
  refine thn (po_none.run pn s2 σ H1 (fun o H3 => o = none ∧ H3 = H1) I2 ⟨rfl, rfl⟩) fun vu s3 ⟨u, H3, I3, pu, eu, e3⟩ => ?_
  cases eu; cases e3; cases pu
  refine thn (step.run pn s3 σ H1 (fun o H4 => o = some 2 ∧ H4 = H1) I3 ⟨2, rfl, rfl, rfl⟩) fun vs s4 ⟨o, H4, I4, ps, eo, e4⟩ => ?_
  cases eo; cases e4
  have I5 : L2.Inv X pn σ H1 { s4 with heap := s4.heap.push { cls := .type "slice", data := .fields #[vl, .none, vs] } } := I4.kept (t' := s4.toks) fun b ob q => Heap.get?_push_of_some _ q
  obtain ⟨us, r, ht, hz⟩ := I5.tuple hx
  have hlen := r.length
  show wpAny (model X.prog X.w) X.A (subscriptTail e (.Slice (some (.Constant (.int 1) k0 p0)) none (some (.Constant (.int 2) k p1)) p3) (.ref b) (.ref s4.heap.objs.size)) (EP X pn σ Q) X.xe { s4 with heap := s4.heap.push { cls := .type "slice", data := .fields #[vl, .none, vs] } }
  refine tail_any (ops := [.ref b, .ref s4.heap.objs.size]) ht.typeIs (PyProof.Rows.slot_tuple_getitem.lookup) ?_ (by with_unfolding_all rfl)
  refine HT.s2_get (b := 1) (lo := some 1) (.inr rfl) ht (Heap.IsSliceOf.new _ vl .none vs) pl ps ?_ (by omega)
  refine ⟨.ref _, _, I5.laid (t' := s4.toks) (o := .tup (HT.evens (ys.drop 1))) (fun b ob q => Heap.get?_push_of_some _ q) (Nat.le_refl _) ?_, rfl, q _ (I5.hok.fresh (Nat.le_refl _))⟩
  have := HT.evens_len (ys.drop 1)
  rw [List.length_drop] at this
  exact ⟨by omega, _, vals_evens (r.drop 1), ⟨_, Heap.get?_push_size _ rfl, rfl, _, rfl⟩⟩
end
def zStep2 (b : Nat) (a : EM D) : EM D := fun env S => (a env S).bnd fun x S1 => match x with
  | .tup ds => .ok (.tup (HT.evens (ds.drop b))) S1
  | _ => .stk
section
variable {X : Cx} {K : PySem.W.Frag} {W : WX} {e : Expr} {te : TE} {fe : EM D} {k k0 : Nat} {p0 p1 p2 p3 pos : Pos}
theorem sd_step2 {b : Nat} (he : ZE X W e te fe) (hp : PE X e' (tStep2 K b te)) (hK : X.K = K) : ZE X W e' (tStep2 K b te) (zStep2 b fe) := by
  subst hK
  refine ⟨hp, fun fr m Hc env S σ H Q z zz q => ?_⟩
  refine he.sd fr m Hc env S σ H _ z zz (q.bnd fun x S1 v m1 Hc1 H1 x1 z1 r1 q1 => ?_)
  cases x <;> first | exact q1.elim | skip
  rename_i ds
  obtain ⟨a, vs, rfl, hq, rr⟩ := r1
  exact ⟨a, vs, rfl, SqT.of (z1.sub _ _ hq), fun l hl => q1.useN z1 hl ⟨l, _, rfl, upd_same, Reps.mono (z1.new hl).2 _ _ (rr.drop b).evens⟩⟩
theorem kze_step2a (hK : X.K = K) (he : ZE X W e te fe) : ZE X W (.Subscript e (.Slice none none (some (.Constant (.int 2) k p1)) p3) pos) (tStep2 K 0 te) (zStep2 0 fe) := sd_step2 he (by subst hK; exact pe_step2a he.pe) hK
theorem kze_step2b (hK : X.K = K) (he : ZE X W e te fe) : ZE X W (.Subscript e (.Slice (some (.Constant (.int 1) k0 p0)) none (some (.Constant (.int 2) k p1)) p3) pos) (tStep2 K 1 te) (zStep2 1 fe) := sd_step2 he (by subst hK; exact pe_step2b he.pe) hK
end
end Z
namespace Z
open PySem L2
open PySem.Spec PyProof.Rows
variable [Tabs]
/-! ### sorted of ints, fewer than 64 -/
def insNum (x : Int) : List Int → List Int
  | [] => [x]
  | y :: l => if x ≤ y then x :: y :: l else y :: insNum x l
def sortNum (l : List Int) : List Int := l.foldr insNum []
theorem insNum_perm (x : Int) : ∀ l, (insNum x l).Perm (x :: l)
  | [] => List.Perm.refl _
  | y :: l => by
    rw [insNum]
    split
    · exact List.Perm.refl _
    · exact ((insNum_perm x l).cons y).trans (List.Perm.swap x y l)
theorem sortNum_perm : ∀ l, (sortNum l).Perm l
  | [] => List.Perm.refl _
  | x :: l => (insNum_perm x (sortNum l)).trans ((sortNum_perm l).cons x)
theorem insNum_srt (x : Int) : ∀ l : List Int, l.Pairwise (· ≤ ·) → (insNum x l).Pairwise (· ≤ ·)
  | [], _ => List.pairwise_singleton _ _
  | y :: l, h => by
    have h2 := List.pairwise_cons.mp h
    rw [insNum]
    split
    · rename_i hxy
      refine List.pairwise_cons.mpr ⟨fun z hz => ?_, h⟩
      rcases (List.mem_cons.mp hz) with rfl | hz
      · exact hxy
      · exact Int.le_trans hxy (h2.1 z hz)
    · rename_i hxy
      refine List.pairwise_cons.mpr ⟨fun z hz => ?_, insNum_srt x l h2.2⟩
      rcases List.mem_cons.mp ((insNum_perm x l).mem_iff.mp hz) with rfl | hz
      · omega
      · exact h2.1 z hz
theorem sortNum_srt : ∀ l, (sortNum l).Pairwise (· ≤ ·)
  | [] => List.Pairwise.nil
  | x :: l => insNum_srt x _ (sortNum_srt l)
theorem srtNum_uniq : ∀ {l m : List Int}, l.Perm m → l.Pairwise (· ≤ ·) → m.Pairwise (· ≤ ·) → l = m
  | [], m, h, _, _ => (List.nil_perm.mp h).symm
  | x :: l, [], h, _, _ => absurd h.length_eq (by simp)
  | x :: l, y :: m, h, h1, h2 => by
    have a := List.pairwise_cons.mp h1
    have b := List.pairwise_cons.mp h2
    have ey : y ∈ x :: l := h.mem_iff.mpr List.mem_cons_self
    have ex : x ∈ y :: m := h.mem_iff.mp List.mem_cons_self
    have le1 : x ≤ y := (List.mem_cons.mp ey).elim (fun e => by rw [e]; exact Int.le_refl _) (a.1 y)
    have le2 : y ≤ x := (List.mem_cons.mp ex).elim (fun e => by rw [e]; exact Int.le_refl _) (b.1 x)
    have e : x = y := by omega
    subst e
    rw [srtNum_uniq h.cons_inv a.2 b.2]
def srtIR : Option (List Int) → Sto → Rs D
  | some ns, S => if ns.length < 64 then .ok (.lst ((sortNum ns).map D.int)) S else .stk
  | none, _ => .stk
def dSortI (xs : List D) (S : Sto) : Rs D := match xs with
  | [d] => srtIR ((seqOf d S).bind intsOf) S
  | _ => .stk
end Z

/-! Z52: a, b = x, y with plain local names. -/
namespace Z
open PySem L2
open PySem.Spec PyProof.Rows
variable [Tabs]
def zPar (i j : Nat) (f : EM (List D)) : SM := fun env S => (f env S).st env fun ds S1 => match ds with
  | [d, e] => .mk (.next ((env.set i (some d)).set j (some e))) S1
  | _ => .stk
section
variable {X : Cx} {K : PySem.W.Frag} {mg : Mg} {W : WX} {pos px py pt : Pos} {a b : Expr} {ta : TA} {fa : EM (List D)} {i j kt k2 : Nat} {pt2 : Pos} {x y : Str}
theorem ss_par (ha : SA K mg W ta fa) (hot : Hot.free i := by exact trivial) (hot2 : Hot.free j := by exact trivial) : SS K mg W (tPar i j ta) (zPar i j fa) := by
  intro fr m Hc env S σ H E z zz p
  refine ha fr m Hc env S σ H _ z zz (p.bnd zz fun ds S1 vs m1 Hc1 H1 x1 z1 r1 p1 => ?_)
  cases ds with
  | nil => exact False.elim p1
  | cons d ds =>
    cases ds with
    | nil => exact False.elim p1
    | cons e ds =>
      cases ds with
      | cons _ _ => exact False.elim p1
      | nil =>
        obtain ⟨v, w, rfl, rv, rw'⟩ := r1.two_of
        exact ⟨v, w, rfl, p1 _ m1 Hc1 H1 (Ex.refl _ _) z1 (((Ze.mono x1 zz).set i rv hot).set j rw' hot2)⟩
theorem zs_par (hc : X.calm = true) (hN : X.N.Nodup) (ha : ZA X W [a, b] ta fa) (hi : X.N[i]? = some x := by rfl) (hj : X.N[j]? = some y := by rfl) (hij : i ≠ j := by decide)
    (hx : X.env.scope.names.lookup x = some .local := by rfl) (hy : X.env.scope.names.lookup y = some .local := by rfl)
    (hw : swappedStores [.Tuple [.Name x px, .Name y py] kt pt] (.Tuple [a, b] k2 pt2) X.env = pure (some [x, y]) := by rfl)
    (hs : swapsWithSole [.Tuple [.Name x px, .Name y py] kt pt] (.Tuple [a, b] k2 pt2) pos.line X.env = pure false := by rfl) (hot : Hot.free i := by exact trivial) (hot2 : Hot.free j := by exact trivial) :
    ZS X W (.Assign [.Tuple [.Name x px, .Name y py] kt pt] (.Tuple [a, b] k2 pt2) pos) (tPar i j ta) (zPar i j fa) := ⟨ps_par hc hN hi hj hij hx hy ha.pa hw hs, ss_par ha.sd hot hot2⟩
end
end Z

namespace Z
open PySem L2
open PySem.Spec PyProof.Rows
variable [Tabs]
/-! ### one step at a time -/
section
variable {env : En} {S S1 S2 S3 S4 : Sto} {a b c : EM D} {r : EM (List D)} {d d1 d2 d3 d4 : D} {ds : List D} {F : List D → Sto → Rs D} {o : List D → Sto → Rs D} {R : Rs D} {t u : EM Bool} {x y : Bool}
theorem nil_n : zNil env S = .ok [] S := rfl
theorem cons_n (h : a env S = .ok d S1) (h2 : r env S1 = .ok ds S2) : zCons a r env S = .ok (d :: ds) S2 := by simp [h, h2]
theorem one_n (h : a env S = .ok d S1) : zCons a zNil env S = .ok [d] S1 := cons_n h nil_n
theorem call_n (h : r env S = .ok ds S1) (h2 : o ds S1 = R) : zCall o r env S = R := by rw [zCall, h]; exact h2
theorem callF_n {n : Nat} (h : r env S = .ok ds S1) (hl : ds.length = n) (h2 : F ds S1 = R) : zCallF n F r env S = R := by rw [zCallF, h, Rs.bnd_ok, if_pos hl]; exact h2
theorem callF1 (h : a env S = .ok d S1) (h2 : F [d] S1 = R) : zCallF 1 F (zCons a zNil) env S = R := callF_n (one_n h) rfl h2
theorem callF2 (h : a env S = .ok d S1) (h' : b env S1 = .ok d1 S2) (h2 : F [d, d1] S2 = R) : zCallF 2 F (zCons a (zCons b zNil)) env S = R := callF_n (cons_n h (one_n h')) rfl h2
theorem op_n {o : D → D → Sto → Rs D} (h : a env S = .ok d S1) (h' : b env S1 = .ok d1 S2) (h2 : o d d1 S2 = R) : zOp o a b env S = R := by rw [zOp, h, Rs.bnd_ok, h', Rs.bnd_ok]; exact h2
theorem tup_n (h : r env S = .ok ds S1) (hl : ds.length ≤ bigN) : zTup r env S = .ok (.tup ds) S1 := by rw [zTup, h, Rs.bnd_ok, if_pos hl]
theorem tup2_n (h : a env S = .ok d S1) (h' : b env S1 = .ok d1 S2) : zTup (zCons a (zCons b zNil)) env S = .ok (.tup [d, d1]) S2 := tup_n (cons_n h (one_n h')) (by simp [bigN])
theorem ret_n (h : a env S = .ok d S1) : zRet a env S = .mk (.ret d) S1 := by rw [zRet, h]; rfl
theorem tru_n (h : a env S = .ok d S1) (h2 : truD S1 d = some x) : zTru a env S = .ok x S1 := by rw [zTru, h, Rs.bnd_ok, h2]
theorem b_n (h : a env S = .ok (.bl x) S1) : zB a env S = .ok x S1 := by rw [zB, h]; rfl
theorem and_n (h : t env S = .ok true S1) (h2 : u env S1 = .ok x S2) : zAnd t u env S = .ok x S2 := by rw [zAnd, h, Rs.bnd_ok, if_pos rfl]; exact h2
theorem and_f (h : t env S = .ok false S1) : zAnd t u env S = .ok false S1 := by rw [zAnd, h, Rs.bnd_ok, if_neg (by decide)]
theorem expr_n (h : a env S = .ok d S1) : zExpr a env S = .mk (.next env) S1 := by rw [zExpr, h]; rfl
/-! ### comprehensions that leave the store alone -/
theorem rng1 {a : EM D} {T : Sto} {n : Nat} (hn : n ≤ 4096) (h : a env T = .ok (dN n) T) : zRange1 (zCons a zNil) env T = .ok ⟨(List.range n).map dN, none⟩ T := by
  rw [zRange1, one_n h]
  simp [dN, show (n : Int) ≤ 1000000 by omega, show -1000000 ≤ (n : Int) by omega, rangeD_n]
theorem tupOf_n {xs : List D} {T T1 : Sto} (h : a env T = .ok (.lst xs) T1) : zCall dTuple (zCons a zNil) env T = .ok (.tup xs) T1 := call_n (one_n h) rfl
theorem src_t {xs : List D} {T T1 : Sto} (h : a env T = .ok (.tup xs) T1) : zSrc a env T = .ok ⟨xs, none⟩ T1 := by rw [zSrc, h]; rfl
theorem src_l {xs : List D} {T T1 : Sto} (h : a env T = .ok (.lst xs) T1) : zSrc a env T = .ok ⟨xs, none⟩ T1 := by rw [zSrc, h]; rfl
theorem enum_l {xs : List D} {T T1 : Sto} (h : a env T = .ok (.lst xs) T1) : zEnum (zCons a zNil) env T = .ok ⟨xs.zipIdx.map fun p => D.tup [.int (p.2 : Nat), p.1], none⟩ T1 := by rw [zEnum, one_n h]; rfl
theorem tab_zip (n : Nat) (u : Nat → Nat) : (tab n u).zipIdx.map (fun p => D.tup [.int (p.2 : Nat), p.1]) = (List.range n).map fun x => D.tup [dN x, dN (u x)] := by
  unfold tab
  refine List.ext_getElem (by simp) ?_
  intro i h1 h2
  simp [dN]
theorem enum_tab {n : Nat} {u : Nat → Nat} {T T1 : Sto} (h : a env T = .ok (.lst (tab n u)) T1) : zEnum (zCons a zNil) env T = .ok ⟨(List.range n).map fun x => D.tup [dN x, dN (u x)], none⟩ T1 := by rw [enum_l h, tab_zip]
section
variable {α : Type} {L : List α} {mk v : α → D} {p : α → Bool} {fi : EI} {g : GM} {ft : EM Bool} {fe : EM D} {vs : List Nat}
theorem lcK_pure (hi : fi env S = .ok ⟨L.map mk, none⟩ S1) (hb : L.length ≤ bigN) (h : ∀ a ∈ L, ∃ env1, g (mk a) (wipeE env vs) = some env1 ∧ ft env1 S1 = .ok (p a) S1 ∧ (p a = true → fe env1 S1 = .ok (v a) S1)) :
    zLcK .frz vs fi g ft fe env S = .ok (.lst ((L.filter p).map v)) S1 := by
  rw [zLcK, hi, Rs.bnd_ok]
  show ((lcA ⟨L.map mk, none⟩ g ft fe (wipeE env vs) (L.map mk) [] S1).bnd Mk.frz.res) = _
  rw [lcA_pure rfl L [] (by simpa using hb) h]
  rfl
theorem tG_pure (hi : fi env S = .ok ⟨L.map mk, none⟩ S1) (hb : L.length ≤ bigN) (h : ∀ a ∈ L, ∃ env1, g (mk a) (wipeE env vs) = some env1 ∧ ft env1 S1 = .ok (p a) S1 ∧ (p a = true → fe env1 S1 = .ok (v a) S1)) :
    zTG vs fi g ft fe env S = .ok (.tup ((L.filter p).map v)) S1 := by
  rw [zTG, hi, Rs.bnd_ok]
  show ((lcA ⟨L.map mk, none⟩ g ft fe (wipeE env vs) (L.map mk) [] S1).bnd _) = _
  rw [lcA_pure rfl L [] (by simpa using hb) h]
  rfl
theorem forL_nil {s : Src} {b : SM} {env : En} (hs : s.okAt S = true) : forL s g b [] env S = .mk (.next env) S := by
  rw [forL]; show (if _ then _ else _) = _; rw [if_pos hs]
theorem forL_cons {s : Src} {b : SM} {env env1 : En} {d : D} {L : List D} (hs : s.okAt S = true) (h1 : g d env = some env1) : forL s g b (d :: L) env S = (b env1 S).turn (forL s g b L) := by
  rw [forL]; show (if _ then _ else _) = _; rw [if_pos hs, h1]
end
end
end Z

namespace V
open PySem L2 Z
open PySem.Spec PyProof.Rows
variable [Tabs]
/-! ### what an expression, a statement comes to -/
structure W {α : Type} (r : Rs α) (R : XV → Sto → Prop) (Q : α → Sto → Prop) : Prop where
  of : match r with
    | .ok a S => Q a S
    | .exc e S => R e S
    | .stk => False
def N0 : XV → Sto → Prop := fun _ _ => False
structure X (r : Ss) (Q : Fl → Sto → Prop) : Prop where
  of : match r with
    | .mk f S => Q f S
    | .stk => False
def G (r : Option En) (K : En → Prop) : Prop := match r with
  | some e => K e
  | none => False
structure Br (b : Bool) (P1 P2 : Prop) : Prop where
  of : if b = true then P1 else P2
def LenQ (n : Nat) (ds : List D) (P : Prop) : Prop := ds.length = n ∧ P
def LenB (ds : List D) (P : Prop) : Prop := ds.length ≤ bigN ∧ P
def TruQ (S : Sto) (d : D) (K : Bool → Prop) : Prop := match truD S d with
  | some b => K b
  | none => False
def BoolQ (d : D) (K : Bool → Prop) : Prop := match d with
  | .bl b => K b
  | _ => False
def IntQ (d : D) (K : Int → Prop) : Prop := match d with
  | .int b => K b
  | _ => False
def Sq (b : SM) (Q : Fl → Sto → Prop) : Fl → Sto → Prop
  | .next e, S => X (b e S) Q
  | f, S => Q f S
def ForL (s : Src) (g : GM) (b : SM) (env : En) (S : Sto) (Q : Fl → Sto → Prop) : Prop := X (forL s g b s.items env S) Q
def LcA (k : Mk) (s : Src) (g : GM) (ft : EM Bool) (fe : EM D) (env : En) (S : Sto) (Q : D → Sto → Prop) : Prop := W ((lcA s g ft fe env s.items [] S).bnd k.res) N0 Q
def LcB (k : Mk) (s : Src) (g : GM) (ft : EM Bool) (fi1 : EI) (g1 : GM) (ft1 : EM Bool) (fe : EM D) (vs1 : List Nat) (env : En) (S : Sto) (Q : D → Sto → Prop) : Prop := W ((lcB s g ft fi1 g1 ft1 fe vs1 env s.items [] S).bnd k.res) N0 Q
def TgA (s : Src) (g : GM) (ft : EM Bool) (fe : EM D) (env : En) (S : Sto) (Q : D → Sto → Prop) : Prop := W ((lcA s g ft fe env s.items [] S).bnd fun acc S2 => .ok (.tup acc) S2) N0 Q
def QgA (pol : Bool) (s : Src) (g : GM) (ft : EM Bool) (fe : EM D) (env : En) (S : Sto) (Q : D → Sto → Prop) : Prop := W ((qA pol s g ft fe env s.items 0 S).bnd fun b S2 => .ok (.bl b) S2) N0 Q
noncomputable def FinQ (fu : Nat) (S0 : Sto) (R : XV → Sto → Prop) (Q : D → Sto → Prop) : Fl → Sto → Prop
  | .ret d, S1 => W (fin0 fu S0 d S1) R Q
  | .next _, S1 => W (fin0 fu S0 .non S1) R Q
  | .exc e _, S1 => ShutX S0 e S1 ∧ R e (S1.take S0.length)
  | _, _ => False
def PutQ (r : Option Sto) (K : Sto → Prop) : Prop := match r with
  | some S => K S
  | none => False
section
variable {α β : Type} {env : En} {S S' S1 : Sto} {a b c : EM D} {r : EM (List D)} {t u : EM Bool} {d d1 d2 x y : D} {ds xs ys : List D} {k n m i : Nat} {R R0 : XV → Sto → Prop} {Q Q0 : D → Sto → Prop} {QL : List D → Sto → Prop} {QB : Bool → Sto → Prop} {QF : Fl → Sto → Prop} {P P1 P2 : Prop} {s : SM}
theorem w_ok {rs : Rs α} {a : α} {Q : α → Sto → Prop} (h : rs = .ok a S) (k : Q a S) : W rs R Q := by rw [h]; exact ⟨k⟩
theorem w_use {rs : Rs α} {Q Q0 : α → Sto → Prop} (h : W rs R0 Q0) (hR : ∀ e S, R0 e S → R e S) (k : ∀ a S, Q0 a S → Q a S) : W rs R Q := by
  cases rs with
  | ok a S => exact ⟨k _ _ h.of⟩
  | exc e S => exact ⟨hR _ _ h.of⟩
  | stk => exact ⟨h.of⟩
theorem w_use0 {rs : Rs α} {Q Q0 : α → Sto → Prop} (h : W rs N0 Q0) (k : ∀ a S, Q0 a S → Q a S) : W rs R Q := w_use h (fun _ _ q => q.elim) k
theorem w_ex {rs : Rs α} {Q : α → Sto → Prop} (h : W rs N0 Q) : ∃ a S, rs = .ok a S ∧ Q a S := by
  cases rs with
  | ok a S => exact ⟨a, S, rfl, h.of⟩
  | exc e S => exact h.of.elim
  | stk => exact h.of.elim
theorem w_eq {rs : Rs α} {a : α} (h : W rs N0 fun a' S' => a' = a ∧ S' = S) : rs = .ok a S := by
  obtain ⟨_, _, e, rfl, rfl⟩ := w_ex h
  exact e
theorem w_bnd {rs : Rs α} {f : α → Sto → Rs β} {Q : β → Sto → Prop} (h : W rs R fun a S => W (f a S) R Q) : W (rs.bnd f) R Q := by
  cases rs with
  | ok a S => exact h.of
  | exc e S => exact ⟨h.of⟩
  | stk => exact h.of.elim
theorem w_nox {rs : Rs α} {Q : α → Sto → Prop} (h : W rs N0 Q) : W rs.nox R Q := by
  cases rs with
  | ok a S => exact ⟨h.of⟩
  | exc e S => exact h.of.elim
  | stk => exact ⟨h.of⟩
theorem x_st {rs : Rs α} {f : α → Sto → Ss} (h : W rs (fun e S => QF (.exc e env) S) fun a S => X (f a S) QF) : X (rs.st env f) QF := by
  cases rs with
  | ok a S => exact h.of
  | exc e S => exact ⟨h.of⟩
  | stk => exact h.of.elim
/-! ### expressions -/
theorem w_var (h : env[i]? = some (some d)) (k : Q d S) : W (zVar i env S) R Q := by rw [zVar, h]; exact ⟨k⟩
theorem w_c (k : Q d S) : W (zC d env S) R Q := ⟨k⟩
theorem w_cN (k : Q (dN (@OfNat.ofNat Nat n (instOfNatNat n))) S) : W (zC (.int (@OfNat.ofNat Int n (@instOfNat n))) env S) R Q := ⟨k⟩
theorem w_op {o : D → D → Sto → Rs D} (k : W (a env S) R fun x S1 => W (b env S1) R fun y S2 => W (o x y S2) R Q) : W (zOp o a b env S) R Q := w_bnd (w_use k (fun _ _ q => q) fun _ _ q => w_bnd q)
theorem w_un {o : D → Sto → Rs D} (k : W (a env S) R fun x S1 => W (o x S1) R Q) : W (zUn o a env S) R Q := w_bnd k
theorem w_nil (k : QL [] S) : W (zNil env S) R QL := ⟨k⟩
theorem w_cons (k : W (a env S) R fun x S1 => W (r env S1) R fun xs S2 => QL (x :: xs) S2) : W (zCons a r env S) R QL := w_bnd (w_use k (fun _ _ q => q) fun _ _ q => w_bnd (w_use q (fun _ _ q => q) fun _ _ q => ⟨q⟩))
theorem w_call {o : List D → Sto → Rs D} (k : W (r env S) R fun ds S1 => W (o ds S1) R Q) : W (zCall o r env S) R Q := w_bnd k
theorem w_callF {F : List D → Sto → Rs D} (k : W (r env S) R fun ds S1 => LenQ n ds (W (F ds S1) R Q)) : W (zCallF n F r env S) R Q := w_bnd (w_use k (fun _ _ q => q) fun ds S1 q => by
  show W (if ds.length = n then F ds S1 else .stk) R Q
  rw [if_pos q.1]; exact q.2)
theorem w_callK {F : List D → Sto → Rs D} {pm : List Nat} {r' : EM (List D)} (k : W (r env S) R fun ds S1 => W (r' env S1) R fun es S2 => LenQ n (permL pm (ds ++ es)) (W (F (permL pm (ds ++ es)) S2) R Q)) : W (zCallK n F pm r r' env S) R Q := w_bnd (w_use k (fun _ _ q => q) fun ds S1 q => w_bnd (w_use q (fun _ _ q => q) fun es S2 q => by
  show W (if (permL pm (ds ++ es)).length = n then F (permL pm (ds ++ es)) S2 else .stk) R Q
  rw [if_pos q.1]; exact q.2))
theorem w_tup (k : W (r env S) R fun ds S1 => LenB ds (Q (.tup ds) S1)) : W (zTup r env S) R Q := w_bnd (w_use k (fun _ _ q => q) fun ds S1 q => by
  show W (if ds.length ≤ bigN then _ else _) R Q
  rw [if_pos q.1]; exact ⟨q.2⟩)
theorem w_lst (k : W (r env S) R fun ds S1 => LenB ds (Q (.lst ds) S1)) : W (zLst r env S) R Q := w_bnd (w_use k (fun _ _ q => q) fun ds S1 q => by
  show W (if ds.length ≤ bigN then _ else _) R Q
  rw [if_pos q.1]; exact ⟨q.2⟩)
theorem w_lstC (k : W (r env S) R fun ds S1 => LenB ds (Q (.ptr S1.length) (S1 ++ [.lst ds]))) : W (zLstC r env S) R Q := w_bnd (w_use k (fun _ _ q => q) fun ds S1 q => by
  show W (if ds.length ≤ bigN then _ else _) R Q
  rw [if_pos q.1]; exact ⟨q.2⟩)
theorem w_ite {rs1 rs2 : Rs α} {Q : α → Sto → Prop} {b : Bool} (h : Br b (W rs1 R Q) (W rs2 R Q)) : W (if b = true then rs1 else rs2) R Q := by
  cases b <;> exact h.of
theorem w_if (k : W (t env S) R fun v S1 => Br v (W (a env S1) R Q) (W (b env S1) R Q)) : W (zIf t a b env S) R Q := w_bnd (w_use k (fun _ _ q => q) fun _ _ q => w_ite q)
theorem w_tru (k : W (a env S) R fun x S1 => TruQ S1 x fun v => QB v S1) : W (zTru a env S) R QB := w_bnd (w_use k (fun _ _ q => q) fun x S1 q => by
  show W (match truD S1 x with | some b => _ | none => _) R QB
  unfold TruQ at q
  cases h : truD S1 x with
  | none => rw [h] at q; exact q.elim
  | some v => rw [h] at q; exact ⟨q⟩)
theorem w_b (k : W (a env S) R fun x S1 => BoolQ x fun v => QB v S1) : W (zB a env S) R QB := w_bnd (w_use k (fun _ _ q => q) fun x S1 q => by
  cases x <;> first | exact ⟨q⟩ | exact q.elim)
theorem w_yes (k : QB true S) : W (zYes env S) R QB := ⟨k⟩
theorem w_not (k : W (t env S) R fun v S1 => QB (!v) S1) : W (zNot t env S) R QB := w_bnd (w_use k (fun _ _ q => q) fun _ _ q => ⟨q⟩)
theorem w_and (k : W (t env S) R fun v S1 => Br v (W (u env S1) R QB) (QB false S1)) : W (zAnd t u env S) R QB := w_bnd (w_use k (fun _ _ q => q) fun v S1 q => by
  cases v with
  | true => exact q.of
  | false => exact ⟨q.of⟩)
theorem w_or (k : W (t env S) R fun v S1 => Br v (QB true S1) (W (u env S1) R QB)) : W (zOr t u env S) R QB := w_bnd (w_use k (fun _ _ q => q) fun v S1 q => by
  cases v with
  | true => exact ⟨q.of⟩
  | false => exact q.of)
theorem w_andV (k : W (a env S) R fun x S1 => BoolQ x fun v => Br v (W (b env S1) R Q) (Q (.bl false) S1)) : W (zAndV a b env S) R Q := w_bnd (w_use k (fun _ _ q => q) fun x S1 q => by
  cases x with
  | bl v =>
    have q : Br _ _ _ := q
    cases v with
    | true => exact q.of
    | false => exact ⟨q.of⟩
  | _ => exact q.elim)
theorem w_orV (k : W (a env S) R fun x S1 => BoolQ x fun v => Br v (Q (.bl true) S1) (W (b env S1) R Q)) : W (zOrV a b env S) R Q := w_bnd (w_use k (fun _ _ q => q) fun x S1 q => by
  cases x with
  | bl v =>
    have q : Br _ _ _ := q
    cases v with
    | true => exact ⟨q.of⟩
    | false => exact q.of
  | _ => exact q.elim)
theorem w_notV (k : W (a env S) R fun x S1 => BoolQ x fun v => Q (.bl (!v)) S1) : W (zNotV a env S) R Q := w_bnd (w_use k (fun _ _ q => q) fun x S1 q => by
  cases x with
  | bl v => exact ⟨q⟩
  | _ => exact q.elim)
theorem w_chain {o o' : D → D → Sto → Rs D} (k : W (a env S) R fun x S1 => W (b env S1) R fun y S2 => W (o x y S2) R fun z S3 => BoolQ z fun v => Br v (W (c env S3) R fun w S4 => W (o' y w S4) R Q) (Q (.bl false) S3)) : W (zChain o o' a b c env S) R Q :=
  w_bnd (w_use k (fun _ _ q => q) fun x S1 q => w_bnd (w_use q (fun _ _ q => q) fun y S2 q => w_bnd (w_use q (fun _ _ q => q) fun z S3 q => by
    cases z with
    | bl v =>
      have q : Br _ _ _ := q
      cases v with
      | true => exact w_bnd q.of
      | false => exact ⟨q.of⟩
    | _ => exact q.elim)))
theorem w_sl {lo hi : EO} (k : W (a env S) R fun x S1 => W (lo env S1) R fun l S2 => W (hi env S2) R fun h S3 => W (dSl x l h S3) R Q) : W (zSl a lo hi env S) R Q := w_bnd (w_use k (fun _ _ q => q) fun _ _ q => w_bnd (w_use q (fun _ _ q => q) fun _ _ q => w_bnd q))
theorem w_noPart {Q : Option Int → Sto → Prop} (k : Q none S) : W (zNoPart env S) R Q := ⟨k⟩
theorem w_part {Q : Option Int → Sto → Prop} (k : W (a env S) R fun x S1 => IntQ x fun i => Q (some i) S1) : W (zPart a env S) R Q := w_bnd (w_use k (fun _ _ q => q) fun x S1 q => by cases x <;> first | exact ⟨q⟩ | exact q.elim)
theorem w_back (k : W (a env S) R fun x S1 => ∃ ds, seqOf x S1 = some ds ∧ Q (.lst ds.reverse) S1) : W (zBack a env S) R Q := w_bnd (w_use k (fun _ _ q => q) fun x S1 q => by
  obtain ⟨ds, e, q⟩ := q
  show W (match seqOf x S1 with | some ds => _ | none => _) R Q
  rw [e]; exact ⟨q⟩)
theorem w_meth {o : D → List D → Sto → Rs D} (k : W (a env S) R fun x S1 => W (r env S1) R fun ys S2 => W (o x ys S2) R Q) : W (zMeth o a r env S) R Q := w_bnd (w_use k (fun _ _ q => q) fun _ _ q => w_bnd q)
theorem w_methL {o : D → List D → Sto → Rs D} (k : W (a env S) R fun x S1 => isPtrL x S1 = true ∧ W (r env S1) R fun ys S2 => W (o x ys S2) R Q) : W (zMethL o a r env S) R Q := w_bnd (w_use k (fun _ _ q => q) fun x S1 q => by
  show W (if isPtrL x S1 = true then _ else _) R Q
  rw [if_pos q.1]; exact w_bnd q.2)
def IsiQ (ns : List String) (x : D) (S : Sto) (K : Bool → Prop) : Prop := ∃ t, tyD x S = some t ∧ K (ns.any (subT t))
theorem w_isi {ns : List String} (k : W (a env S) R fun x S1 => IsiQ ns x S1 fun v => Q (.bl v) S1) : W (zIsi ns a env S) R Q := w_bnd (w_use k (fun _ _ q => q) fun x S1 q => by
  obtain ⟨t, e, q⟩ := q
  show W (match tyD x S1 with | some t => _ | none => _) R Q
  rw [e]; exact ⟨q⟩)
theorem w_xis {tab : List (Str × Bool)} {e : XV} {v : Bool} (h : tab.lookup e.nm = some v) (k : Q (.bl v) S) : W (zXis tab e env S) R Q := by rw [zXis, h]; exact ⟨k⟩
theorem w_xf {L : List Str} {f : Str} {nm : Str} {fs : List (Str × D)} (h : L.contains nm = true) (h2 : fs.lookup f = some d) (k : Q d S) : W (zXf L f ⟨nm, some fs⟩ env S) R Q := by
  unfold zXf
  rw [if_pos h]
  show W (match fs.lookup f with | some d => _ | none => _) R Q
  rw [h2]; exact ⟨k⟩
/-! ### sources -/
theorem w_src {Q : Src → Sto → Prop} (k : W (a env S) R fun x S1 => ∃ s, srcOf x S1 = some s ∧ Q s S1) : W (zSrc a env S) R Q := w_bnd (w_use k (fun _ _ q => q) fun x S1 q => by
  obtain ⟨t, e, q⟩ := q
  show W (match srcOf x S1 with | some t => _ | none => _) R Q
  rw [e]; exact ⟨q⟩)
def Rng1 (ds : List D) (K : Src → Prop) : Prop := ∃ j : Int, ds = [.int j] ∧ (j ≤ 1000000 ∧ -1000000 ≤ j) ∧ K ⟨rangeD 0 j, none⟩
def Rng2 (ds : List D) (K : Src → Prop) : Prop := ∃ i j : Int, ds = [.int i, .int j] ∧ ((j ≤ 1000000 ∧ -1000000 ≤ j) ∧ (i ≤ 1000000 ∧ -1000000 ≤ i)) ∧ K ⟨rangeD i j, none⟩
theorem w_range1 {Q : Src → Sto → Prop} (k : W (r env S) R fun ds S1 => Rng1 ds fun s => Q s S1) : W (zRange1 r env S) R Q := w_bnd (w_use k (fun _ _ q => q) fun x S1 q => by
  obtain ⟨j, rfl, h, q⟩ := q
  show W (if _ then _ else _) R Q
  rw [if_pos h]; exact ⟨q⟩)
theorem w_range2 {Q : Src → Sto → Prop} (k : W (r env S) R fun ds S1 => Rng2 ds fun s => Q s S1) : W (zRange2 r env S) R Q := w_bnd (w_use k (fun _ _ q => q) fun x S1 q => by
  obtain ⟨i, j, rfl, h, q⟩ := q
  show W (if _ then _ else _) R Q
  rw [if_pos h]; exact ⟨q⟩)
theorem rng1_n {K : Src → Prop} (h : n ≤ 1000000) (k : K ⟨(List.range n).map dN, none⟩) : Rng1 [dN n] K := ⟨n, rfl, ⟨by omega, by omega⟩, by rw [rangeD_n]; exact k⟩
theorem rng2_n {K : Src → Prop} (h : m ≤ 1000000) (h' : n ≤ 1000000) (k : K ⟨(List.range' m (n - m)).map dN, none⟩) : Rng2 [dN m, dN n] K := ⟨m, n, rfl, ⟨⟨by omega, by omega⟩, by omega, by omega⟩, by rw [rangeD_nn]; exact k⟩
theorem src_tup {K : Src → Prop} (k : K ⟨xs, none⟩) : ∃ s, srcOf (.tup xs) S = some s ∧ K s := ⟨_, rfl, k⟩
theorem src_lst {K : Src → Prop} (k : K ⟨xs, none⟩) : ∃ s, srcOf (.lst xs) S = some s ∧ K s := ⟨_, rfl, k⟩
/-! ### statements -/
theorem x_seq {a b : SM} (k : X (a env S) (Sq b QF)) : X (zSeq a b env S) QF := by
  unfold zSeq
  cases h : a env S with
  | stk => rw [h] at k; exact k.of.elim
  | mk f S1 =>
    rw [h] at k
    cases f with
    | next e => exact k.of
    | _ => exact ⟨k.of⟩
theorem sq_next (k : X (s env S) QF) : Sq s QF (.next env) S := k
theorem sq_ret (k : QF (.ret d) S) : Sq s QF (.ret d) S := k
theorem sq_exc {e : XV} (k : QF (.exc e env) S) : Sq s QF (.exc e env) S := k
theorem sq_brk (k : QF (.brk env) S) : Sq s QF (.brk env) S := k
theorem sq_cnt (k : QF (.cnt env) S) : Sq s QF (.cnt env) S := k
theorem x_next (k : QF (.next env) S) : X (zNext env S) QF := ⟨k⟩
theorem x_brk (k : QF (.brk env) S) : X (zBrk env S) QF := ⟨k⟩
theorem x_cnt (k : QF (.cnt env) S) : X (zCnt env S) QF := ⟨k⟩
theorem x_ret (k : W (a env S) (fun e S => QF (.exc e env) S) fun d S1 => QF (.ret d) S1) : X (zRet a env S) QF := x_st (w_use k (fun _ _ q => q) fun _ _ q => ⟨q⟩)
theorem x_retN (k : QF (.ret .non) S) : X (zRetN env S) QF := ⟨k⟩
theorem x_expr (k : W (a env S) (fun e S => QF (.exc e env) S) fun d S1 => QF (.next env) S1) : X (zExpr a env S) QF := x_st (w_use k (fun _ _ q => q) fun _ _ q => ⟨q⟩)
theorem x_if {s1 s2 : SM} (k : W (t env S) (fun e S => QF (.exc e env) S) fun v S1 => Br v (X (s1 env S1) QF) (X (s2 env S1) QF)) : X (zIfS t s1 s2 env S) QF := x_st (w_use k (fun _ _ q => q) fun v S1 q => by cases v <;> exact q.of)
theorem x_asg {g : GM} (k : W (a env S) (fun e S => QF (.exc e env) S) fun d S1 => G (g d env) fun e => QF (.next e) S1) : X (zAsg a g env S) QF := x_st (w_use k (fun _ _ q => q) fun d S1 q => by
  cases h : g d env with
  | none => rw [h] at q; exact q.elim
  | some e => rw [h] at q; exact ⟨q⟩)
theorem x_put (k : W (c env S) (fun e S => QF (.exc e env) S) fun v S1 => W (a env S1) (fun e S => QF (.exc e env) S) fun x S2 => W (b env S2) (fun e S => QF (.exc e env) S) fun y S3 => PutQ (stSet x y v S3) fun S4 => QF (.next env) S4) : X (zPut a b c env S) QF :=
  x_st (w_use k (fun _ _ q => q) fun v S1 q => x_st (w_use q (fun _ _ q => q) fun x S2 q => x_st (w_use q (fun _ _ q => q) fun y S3 q => by
    cases h : stSet x y v S3 with
    | none => rw [h] at q; exact q.elim
    | some e => rw [h] at q; exact ⟨q⟩)))
theorem x_putD (k : W (c env S) (fun e S => QF (.exc e env) S) fun v S1 => W (a env S1) (fun e S => QF (.exc e env) S) fun x S2 => W (b env S2) (fun e S => QF (.exc e env) S) fun y S3 => PutQ (dPutS x y v S3) fun S4 => QF (.next env) S4) : X (zPutD a b c env S) QF :=
  x_st (w_use k (fun _ _ q => q) fun v S1 q => x_st (w_use q (fun _ _ q => q) fun x S2 q => x_st (w_use q (fun _ _ q => q) fun y S3 q => by
    cases h : dPutS x y v S3 with
    | none => rw [h] at q; exact q.elim
    | some e => rw [h] at q; exact ⟨q⟩)))
theorem x_raise1 {nm f : Str} (k : W (a env S) (fun e S => QF (.exc e env) S) fun d S1 => QF (.exc ⟨nm, some [(f, d)]⟩ env) S1) : X (zRaise1 nm f a env S) QF := x_st (w_use k (fun _ _ q => q) fun _ _ q => ⟨q⟩)
theorem x_raise0 {nm : Str} (k : QF (.exc ⟨nm, none⟩ env) S) : X (zRaise0 nm env S) QF := ⟨k⟩
def UnQ (i : Nat) (QF : Fl → Sto → Prop) : Fl → Sto → Prop
  | .next env, S => QF (.next (env.set i none)) S
  | .brk env, S => QF (.brk (env.set i none)) S
  | .cnt env, S => QF (.cnt (env.set i none)) S
  | .ret d, S => QF (.ret d) S
  | .exc _ _, _ => False
def TryQ (i : Nat) (cat : List (Str × Bool)) (fh : XV → SM) (QF : Fl → Sto → Prop) : Fl → Sto → Prop
  | .exc x env1, S1 => i < env1.length ∧ ∃ v, cat.lookup x.nm = some v ∧ Br v (X (fh x (env1.set i none) S1) (UnQ i QF)) (QF (.exc x env1) S1)
  | f, S => QF f S
theorem x_try {cat : List (Str × Bool)} {fb : SM} {fh : XV → SM} (k : X (fb env S) (TryQ i cat fh QF)) : X (zTryAs i cat fb fh env S) QF := by
  unfold zTryAs
  cases h : fb env S with
  | stk => rw [h] at k; exact k.of.elim
  | mk f S1 =>
    rw [h] at k
    cases f with
    | exc x env1 =>
      obtain ⟨h1, v, h2, k⟩ := k.of
      dsimp only
      rw [if_pos h1, h2]
      cases v with
      | false => exact ⟨k.of⟩
      | true =>
        dsimp only
        have k : X (fh x (env1.set i none) S1) (UnQ i QF) := k.of
        cases hh : fh x (env1.set i none) S1 with
        | stk => rw [hh] at k; exact k.of.elim
        | mk f2 S2 =>
          rw [hh] at k
          cases f2 with
          | exc _ _ => exact k.of.elim
          | _ => exact ⟨k.of⟩
    | _ => exact ⟨k.of⟩
theorem tryq_ret {cat : List (Str × Bool)} {fh : XV → SM} (k : QF (.ret d) S) : TryQ i cat fh QF (.ret d) S := k
theorem tryq_next {cat : List (Str × Bool)} {fh : XV → SM} (k : QF (.next env) S) : TryQ i cat fh QF (.next env) S := k
theorem tryq_t {cat : List (Str × Bool)} {fh : XV → SM} {e : XV} (h : i < env.length) (h2 : cat.lookup e.nm = some true) (k : X (fh e (env.set i none) S) (UnQ i QF)) : TryQ i cat fh QF (.exc e env) S := ⟨h, true, h2, ⟨k⟩⟩
theorem tryq_f {cat : List (Str × Bool)} {fh : XV → SM} {e : XV} (h : i < env.length) (h2 : cat.lookup e.nm = some false) (k : QF (.exc e env) S) : TryQ i cat fh QF (.exc e env) S := ⟨h, false, h2, ⟨k⟩⟩
theorem unq_ret (k : QF (.ret d) S) : UnQ i QF (.ret d) S := k
theorem unq_next (k : QF (.next (env.set i none)) S) : UnQ i QF (.next env) S := k
theorem w_xis_t {tab : List (Str × Bool)} {e : XV} (h : tab.lookup e.nm = some true) (k : Q (.bl true) S) : W (zXis tab e env S) R Q := w_xis h k
theorem w_xis_f {tab : List (Str × Bool)} {e : XV} (h : tab.lookup e.nm = some false) (k : Q (.bl false) S) : W (zXis tab e env S) R Q := w_xis h k
theorem w_xf1 {L : List Str} {f nm : Str} (h : L.contains nm = true) (k : Q d S) : W (zXf L f ⟨nm, some [(f, d)]⟩ env S) R Q := w_xf h (by simp) k
theorem lqk {pm : List Nat} {F : List D → Sto → Rs D} (h : permL pm xs = ys) (hl : ys.length = n) (k : W (F ys S) R Q) : LenQ n (permL pm xs) (W (F (permL pm xs) S) R Q) := by
  rw [h]; exact ⟨hl, k⟩
/-! ### truth -/
theorem br_t (k : P1) : Br true P1 P2 := ⟨k⟩
theorem br_f (k : P2) : Br false P1 P2 := ⟨k⟩
theorem br_d {p : Prop} [Decidable p] (k1 : p → P1) (k2 : ¬ p → P2) : Br (decide p) P1 P2 := by
  by_cases h : p
  · rw [decide_eq_true h]; exact ⟨k1 h⟩
  · rw [decide_eq_false h]; exact ⟨k2 h⟩
theorem br_dt {p : Prop} [Decidable p] (h : p) (k1 : P1) : Br (decide p) P1 P2 := br_d (fun _ => k1) fun q => absurd h q
theorem br_df {p : Prop} [Decidable p] (h : ¬ p) (k1 : P2) : Br (decide p) P1 P2 := br_d (fun q => absurd q h) fun _ => k1
theorem br_n {v : Bool} (k : Br v P2 P1) : Br (!v) P1 P2 := by cases v <;> exact ⟨k.of⟩
theorem br_b {v : Bool} (k1 : v = true → P1) (k2 : v = false → P2) : Br v P1 P2 := by
  cases v
  · exact ⟨k2 rfl⟩
  · exact ⟨k1 rfl⟩
theorem bq {v : Bool} {K : Bool → Prop} (k : K v) : BoolQ (.bl v) K := k
theorem iq {v : Int} {K : Int → Prop} (k : K v) : IntQ (.int v) K := k
theorem iqN {K : Int → Prop} (k : K (n : Int)) : IntQ (dN n) K := k
theorem tq_b {v : Bool} {K : Bool → Prop} (k : K v) : TruQ S (.bl v) K := k
theorem tq_N {K : Bool → Prop} (k : K (decide (n ≠ 0))) : TruQ S (dN n) K := by
  show K ((n : Int) != 0)
  rw [show ((n : Int) != 0) = decide (n ≠ 0) by rw [Bool.eq_iff_iff]; simp]
  exact k
/-! ### operators -/
theorem o_addN (k : Q (dN (n + m)) S) : W (dAdd (dN n) (dN m) S) R Q := ⟨k⟩
theorem o_addI {i j : Int} (k : Q (.int (i + j)) S) : W (dAdd (.int i) (.int j) S) R Q := ⟨k⟩
theorem o_addT (h : xs.length + ys.length ≤ bigN) (k : Q (.tup (xs ++ ys)) S) : W (dAdd (.tup xs) (.tup ys) S) R Q := by
  show W (if _ then _ else _) R Q
  rw [if_pos h]; exact ⟨k⟩
theorem o_addL (h : xs.length + ys.length ≤ bigN) (k : Q (.lst (xs ++ ys)) S) : W (dAdd (.lst xs) (.lst ys) S) R Q := by
  show W (if _ then _ else _) R Q
  rw [if_pos h]; exact ⟨k⟩
theorem o_subN (h : m ≤ n) (k : Q (dN (n - m)) S) : W (dSub (dN n) (dN m) S) R Q := by
  refine ⟨?_⟩
  show Q (.int ((n : Int) - (m : Int))) S
  rw [← Int.ofNat_sub h]; exact k
theorem o_subI {i j : Int} (k : Q (.int (i - j)) S) : W (dSub (.int i) (.int j) S) R Q := ⟨k⟩
theorem o_mulN (h : n < 18446744073709551616) (k : Q (dN (n * m)) S) : W (dMul (dN n) (dN m) S) R Q := by
  show W (dMul (.int n) (.int m) S) R Q
  rw [ev_mul, if_pos (.inl ⟨by omega, by omega⟩)]
  refine ⟨?_⟩
  show Q (.int ((n : Int) * (m : Int))) S
  rw [← Int.natCast_mul]; exact k
theorem o_divN (h : 0 < m) (h' : m < 1073741824) (k : Q (dN (n / m)) S) : W (dDiv (dN n) (dN m) S) R Q := by
  show W (dDiv (.int n) (.int m) S) R Q
  rw [ev_div, if_pos ⟨by omega, by omega⟩]
  refine ⟨?_⟩
  show Q (.int ((n : Int) / (m : Int))) S
  rw [← Int.natCast_ediv]; exact k
theorem o_modN (h : 0 < m) (k : Q (dN (n % m)) S) : W (dMod (dN n) (dN m) S) R Q := by
  show W (dMod (.int n) (.int m) S) R Q
  rw [ev_mod, if_pos (by omega)]
  refine ⟨?_⟩
  show Q (.int ((n : Int) % (m : Int))) S
  rw [← Int.natCast_emod]; exact k
theorem o_ltN (k : Q (.bl (decide (n < m))) S) : W (dLt (dN n) (dN m) S) R Q := by
  refine ⟨?_⟩
  show Q (.bl (decide ((n : Int) < (m : Int)))) S
  simpa using k
theorem o_leN (k : Q (.bl (decide (n ≤ m))) S) : W (dLe (dN n) (dN m) S) R Q := by
  refine ⟨?_⟩
  show Q (.bl (decide ((n : Int) ≤ (m : Int)))) S
  simpa using k
theorem o_gtN (k : Q (.bl (decide (m < n))) S) : W (dGt (dN n) (dN m) S) R Q := by
  refine ⟨?_⟩
  show Q (.bl (decide ((m : Int) < (n : Int)))) S
  simpa using k
theorem o_geN (k : Q (.bl (decide (m ≤ n))) S) : W (dGe (dN n) (dN m) S) R Q := by
  refine ⟨?_⟩
  show Q (.bl (decide ((m : Int) ≤ (n : Int)))) S
  simpa using k
theorem o_eqN (k : Q (.bl (decide (n = m))) S) : W (dEq (dN n) (dN m) S) R Q := by
  refine ⟨?_⟩
  show Q (.bl (decide ((n : Int) = (m : Int)))) S
  rw [show decide ((n : Int) = (m : Int)) = decide (n = m) by rw [Bool.eq_iff_iff, decide_eq_true_eq, decide_eq_true_eq]; omega]; exact k
theorem o_neN (k : Q (.bl (!decide (n = m))) S) : W (dNe (dN n) (dN m) S) R Q := by
  refine ⟨?_⟩
  show Q (.bl (!decide ((n : Int) = (m : Int)))) S
  rw [show decide ((n : Int) = (m : Int)) = decide (n = m) by rw [Bool.eq_iff_iff, decide_eq_true_eq, decide_eq_true_eq]; omega]; exact k
theorem o_eqI {i j : Int} (k : Q (.bl (decide (i = j))) S) : W (dEq (.int i) (.int j) S) R Q := ⟨k⟩
theorem o_neI {i j : Int} (k : Q (.bl (!decide (i = j))) S) : W (dNe (.int i) (.int j) S) R Q := ⟨k⟩
theorem o_eqB {v w : Bool} (k : Q (.bl (decide (v = w))) S) : W (dEq (.bl v) (.bl w) S) R Q := ⟨k⟩
theorem o_neB {v w : Bool} (k : Q (.bl (!decide (v = w))) S) : W (dNe (.bl v) (.bl w) S) R Q := ⟨k⟩
theorem o_eqS {v w : Str} (k : Q (.bl (decide (v = w))) S) : W (dEq (.str v) (.str w) S) R Q := ⟨k⟩
theorem o_ltI {i j : Int} (k : Q (.bl (decide (i < j))) S) : W (dLt (.int i) (.int j) S) R Q := ⟨k⟩
theorem o_leI {i j : Int} (k : Q (.bl (decide (i ≤ j))) S) : W (dLe (.int i) (.int j) S) R Q := ⟨k⟩
theorem o_gtI {i j : Int} (k : Q (.bl (decide (j < i))) S) : W (dGt (.int i) (.int j) S) R Q := ⟨k⟩
theorem o_geI {i j : Int} (k : Q (.bl (decide (j ≤ i))) S) : W (dGe (.int i) (.int j) S) R Q := ⟨k⟩
theorem o_andN (k : Q (dN (n &&& m)) S) : W (dAnd (dN n) (dN m) S) R Q := by
  refine ⟨?_⟩
  show Q (.int (Builtin.bitAnd (n : Int) (m : Int))) S
  rw [bAnd_nat]; exact k
theorem o_orN (k : Q (dN (n ||| m)) S) : W (dOr (dN n) (dN m) S) R Q := by
  refine ⟨?_⟩
  show Q (.int (Builtin.bitOr (n : Int) (m : Int))) S
  rw [bOr_nat]; exact k
theorem o_shl1 (h : n ≤ 1000000) (k : Q (dN (2 ^ n)) S) : W (dShl (dN 1) (dN n) S) R Q := by
  show W (dShl (.int (1 : Nat)) (.int n) S) R Q
  rw [ev_shl, if_pos ⟨by omega, by omega, by decide⟩]
  refine ⟨?_⟩
  show Q (.int (((1 : Nat) : Int) * 2 ^ ((n : Int)).toNat)) S
  rw [Int.toNat_natCast]
  have e : (((1 : Nat) : Int) * 2 ^ n) = ((2 ^ n : Nat) : Int) := by simp
  rw [e]; exact k
theorem o_shrN (k : Q (dN (n >>> m)) S) : W (dShr (dN n) (dN m) S) R Q := by
  show W (dShr (.int n) (.int m) S) R Q
  rw [ev_shr, if_pos (by omega)]
  refine ⟨?_⟩
  show Q (.int ((n : Int) / 2 ^ ((m : Int)).toNat)) S
  rw [Int.toNat_natCast]
  have e : ((n : Int) / 2 ^ m) = ((n >>> m : Nat) : Int) := by rw [Nat.shiftRight_eq_div_pow]; simp
  rw [e]; exact k
theorem o_isNt (k : Q (.bl true) S) : W (dIsN .non .non S) R Q := ⟨k⟩
theorem o_isNn (k : Q (.bl false) S) : W (dIsN (dN n) .non S) R Q := ⟨k⟩
theorem o_isNT (k : Q (.bl false) S) : W (dIsN (.tup xs) .non S) R Q := ⟨k⟩
theorem o_isNott (k : Q (.bl false) S) : W (dIsNot .non .non S) R Q := ⟨k⟩
theorem o_isNotn (k : Q (.bl true) S) : W (dIsNot (dN n) .non S) R Q := ⟨k⟩
theorem o_isNotT (k : Q (.bl true) S) : W (dIsNot (.tup xs) .non S) R Q := ⟨k⟩
theorem o_isNotL (k : Q (.bl true) S) : W (dIsNot (.lst xs) .non S) R Q := ⟨k⟩
theorem o_neg {i : Int} (k : Q (.int (-i)) S) : W (dNeg (.int i) S) R Q := ⟨k⟩
theorem o_negN (k : Q (.int (-(n : Int))) S) : W (dNeg (dN n) S) R Q := ⟨k⟩
theorem o_addIN {i : Int} (k : Q (.int (i + (n : Int))) S) : W (dAdd (.int i) (dN n) S) R Q := ⟨k⟩
theorem o_addNI {i : Int} (k : Q (.int ((n : Int) + i)) S) : W (dAdd (dN n) (.int i) S) R Q := ⟨k⟩
theorem o_subIN {i : Int} (k : Q (.int (i - (n : Int))) S) : W (dSub (.int i) (dN n) S) R Q := ⟨k⟩
theorem o_subNI {i : Int} (k : Q (.int ((n : Int) - i)) S) : W (dSub (dN n) (.int i) S) R Q := ⟨k⟩
theorem o_mulIN {i : Int} (h : m < 18446744073709551616) (k : Q (.int (i * (m : Int))) S) : W (dMul (.int i) (dN m) S) R Q := by
  show W (dMul (.int i) (.int m) S) R Q
  rw [ev_mul, if_pos (.inr ⟨by omega, by omega⟩)]; exact ⟨k⟩
theorem o_mulNI {i : Int} (h : m < 18446744073709551616) (k : Q (.int ((m : Int) * i)) S) : W (dMul (dN m) (.int i) S) R Q := by
  show W (dMul (.int m) (.int i) S) R Q
  rw [ev_mul, if_pos (.inl ⟨by omega, by omega⟩)]; exact ⟨k⟩
theorem o_mulNN (h : m < 18446744073709551616) (k : Q (dN (n * m)) S) : W (dMul (dN n) (dN m) S) R Q := by
  show W (dMul (.int n) (.int m) S) R Q
  rw [ev_mul, if_pos (.inr ⟨by omega, by omega⟩)]
  refine ⟨?_⟩
  show Q (.int ((n : Int) * (m : Int))) S
  rw [← Int.natCast_mul]; exact k
theorem o_mulII {i j : Int} (h : -18446744073709551616 < i ∧ i < 18446744073709551616) (k : Q (.int (i * j)) S) : W (dMul (.int i) (.int j) S) R Q := by
  rw [ev_mul, if_pos (.inl ⟨by omega, by omega⟩)]; exact ⟨k⟩
theorem o_modIN {i : Int} (h : 0 < n) (k : Q (dN (i % (n : Int)).toNat) S) : W (dMod (.int i) (dN n) S) R Q := by
  show W (dMod (.int i) (.int n) S) R Q
  rw [ev_mod, if_pos (by omega)]
  have e : (((i % (n : Int)).toNat : Nat) : Int) = i % (n : Int) := Int.toNat_of_nonneg (Int.emod_nonneg _ (by omega))
  rw [← e]; exact ⟨k⟩
theorem o_divIN {i : Int} (h : 0 < n) (h' : n < 1073741824) (k : Q (.int (i / (n : Int))) S) : W (dDiv (.int i) (dN n) S) R Q := by
  show W (dDiv (.int i) (.int n) S) R Q
  rw [ev_div, if_pos ⟨by omega, by omega⟩]; exact ⟨k⟩
theorem o_eqIN {i : Int} (k : Q (.bl (decide (i = (n : Int)))) S) : W (dEq (.int i) (dN n) S) R Q := ⟨k⟩
theorem o_eqNI {i : Int} (k : Q (.bl (decide ((n : Int) = i))) S) : W (dEq (dN n) (.int i) S) R Q := ⟨k⟩
theorem o_neIN {i : Int} (k : Q (.bl (!decide (i = (n : Int)))) S) : W (dNe (.int i) (dN n) S) R Q := ⟨k⟩
theorem o_neNI {i : Int} (k : Q (.bl (!decide ((n : Int) = i))) S) : W (dNe (dN n) (.int i) S) R Q := ⟨k⟩
theorem o_ltIN {i : Int} (k : Q (.bl (decide (i < (n : Int)))) S) : W (dLt (.int i) (dN n) S) R Q := ⟨k⟩
theorem o_ltNI {i : Int} (k : Q (.bl (decide ((n : Int) < i))) S) : W (dLt (dN n) (.int i) S) R Q := ⟨k⟩
theorem o_leIN {i : Int} (k : Q (.bl (decide (i ≤ (n : Int)))) S) : W (dLe (.int i) (dN n) S) R Q := ⟨k⟩
theorem o_leNI {i : Int} (k : Q (.bl (decide ((n : Int) ≤ i))) S) : W (dLe (dN n) (.int i) S) R Q := ⟨k⟩
theorem o_gtIN {i : Int} (k : Q (.bl (decide ((n : Int) < i))) S) : W (dGt (.int i) (dN n) S) R Q := ⟨k⟩
theorem o_gtNI {i : Int} (k : Q (.bl (decide (i < (n : Int)))) S) : W (dGt (dN n) (.int i) S) R Q := ⟨k⟩
theorem o_geIN {i : Int} (k : Q (.bl (decide ((n : Int) ≤ i))) S) : W (dGe (.int i) (dN n) S) R Q := ⟨k⟩
theorem o_geNI {i : Int} (k : Q (.bl (decide (i ≤ (n : Int)))) S) : W (dGe (dN n) (.int i) S) R Q := ⟨k⟩
theorem b_abs {i : Int} (k : Q (dN i.natAbs) S) : W (dAbs [.int i] S) R Q := by
  refine ⟨?_⟩
  show Q (.int (if i < 0 then -i else i)) S
  have e : (if i < 0 then -i else i) = (i.natAbs : Int) := by split <;> omega
  rw [e]; exact k
theorem anyOf_ptr (h : S[i]? = some (.lst xs)) : anyOf (.ptr i) S = some xs := by simp [anyOf, seqOf, h]
theorem dIx_at (h : anyOf x S = some xs) (h2 : xs[i]? = some d) : dIx x (dN i) S = .ok d S := by
  unfold dIx dN
  simp only [h]
  rw [atI_nat h2]
theorem ix_gen (h : anyOf x S = some xs) (h2 : xs[i]? = some d) (k : Q d S) : W (dIx x (dN i) S) R Q := by
  have hl : i < xs.length := (List.getElem?_eq_some_iff.mp h2).1
  have e : dIx x (dN i) S = .ok d S := dIx_at h h2
  rw [e]; exact ⟨k⟩
theorem ix_rngL {f : Nat → D} (hi : i < n) (k : Q (f i) S) : W (dIx (.lst ((List.range n).map f)) (dN i) S) R Q := ix_gen rfl (by simp [hi]) k
theorem ix_tab {f : Nat → Nat} (hi : i < n) (k : Q (dN (f i)) S) : W (dIx (.lst (tab n f)) (dN i) S) R Q := ix_gen rfl (tab_get f hi) k
theorem ix_map [Inhabited α] {f : α → D} {L : List α} (h : anyOf x S = some (L.map f)) (hi : i < L.length) (k : Q (f L[i]!) S) : W (dIx x (dN i) S) R Q := ix_gen h (by rw [List.getElem?_map, List.getElem?_eq_getElem hi, getElem!_pos L i hi]; rfl) k
theorem ix_mapL [Inhabited α] {f : α → D} {L : List α} (hi : i < L.length) (k : Q (f L[i]!) S) : W (dIx (.lst (L.map f)) (dN i) S) R Q := ix_map rfl hi k
theorem ix_mapT [Inhabited α] {f : α → D} {L : List α} (hi : i < L.length) (k : Q (f L[i]!) S) : W (dIx (.tup (L.map f)) (dN i) S) R Q := ix_map rfl hi k
theorem ix_o0 {L : List (Nat × Nat)} (k : Q (dN n) S) : W (dIx (ordD n L) (dN 0) S) R Q := ix_gen (xs := [dN n, .tup (L.map pD)]) rfl rfl k
theorem ix_o1 {L : List (Nat × Nat)} (k : Q (.tup (L.map pD)) S) : W (dIx (ordD n L) (dN 1) S) R Q := ix_gen (xs := [dN n, .tup (L.map pD)]) rfl rfl k
theorem ix_p0 {p : Nat × Nat} (k : Q (dN p.1) S) : W (dIx (pD p) (dN 0) S) R Q := ix_gen (xs := [dN p.1, dN p.2]) rfl rfl k
theorem ix_p1 {p : Nat × Nat} (k : Q (dN p.2) S) : W (dIx (pD p) (dN 1) S) R Q := ix_gen (xs := [dN p.1, dN p.2]) rfl rfl k

theorem ix_tup0 {e0 : D} (k : Q e0 S) : W (dIx (.tup (e0 :: xs)) (dN 0) S) R Q := ix_gen (xs := e0 :: xs) rfl rfl k
theorem ix_tup1 {e0 e1 : D} (k : Q e1 S) : W (dIx (.tup (e0 :: e1 :: xs)) (dN 1) S) R Q := ix_gen (xs := e0 :: e1 :: xs) rfl rfl k
theorem ix_tup2 {e0 e1 e2 : D} (k : Q e2 S) : W (dIx (.tup (e0 :: e1 :: e2 :: xs)) (dN 2) S) R Q := ix_gen (xs := e0 :: e1 :: e2 :: xs) rfl rfl k
theorem ix_tup3 {e0 e1 e2 e3 : D} (k : Q e3 S) : W (dIx (.tup (e0 :: e1 :: e2 :: e3 :: xs)) (dN 3) S) R Q := ix_gen (xs := e0 :: e1 :: e2 :: e3 :: xs) rfl rfl k
theorem ix_tup4 {e0 e1 e2 e3 e4 : D} (k : Q e4 S) : W (dIx (.tup (e0 :: e1 :: e2 :: e3 :: e4 :: xs)) (dN 4) S) R Q := ix_gen (xs := e0 :: e1 :: e2 :: e3 :: e4 :: xs) rfl rfl k
theorem ix_tup5 {e0 e1 e2 e3 e4 e5 : D} (k : Q e5 S) : W (dIx (.tup (e0 :: e1 :: e2 :: e3 :: e4 :: e5 :: xs)) (dN 5) S) R Q := ix_gen (xs := e0 :: e1 :: e2 :: e3 :: e4 :: e5 :: xs) rfl rfl k
theorem ix_lst0 {e0 : D} (k : Q e0 S) : W (dIx (.lst (e0 :: xs)) (dN 0) S) R Q := ix_gen (xs := e0 :: xs) rfl rfl k
theorem ix_lst1 {e0 e1 : D} (k : Q e1 S) : W (dIx (.lst (e0 :: e1 :: xs)) (dN 1) S) R Q := ix_gen (xs := e0 :: e1 :: xs) rfl rfl k
theorem ix_lst2 {e0 e1 e2 : D} (k : Q e2 S) : W (dIx (.lst (e0 :: e1 :: e2 :: xs)) (dN 2) S) R Q := ix_gen (xs := e0 :: e1 :: e2 :: xs) rfl rfl k
theorem ix_lst3 {e0 e1 e2 e3 : D} (k : Q e3 S) : W (dIx (.lst (e0 :: e1 :: e2 :: e3 :: xs)) (dN 3) S) R Q := ix_gen (xs := e0 :: e1 :: e2 :: e3 :: xs) rfl rfl k
theorem ix_lst4 {e0 e1 e2 e3 e4 : D} (k : Q e4 S) : W (dIx (.lst (e0 :: e1 :: e2 :: e3 :: e4 :: xs)) (dN 4) S) R Q := ix_gen (xs := e0 :: e1 :: e2 :: e3 :: e4 :: xs) rfl rfl k
theorem ix_lst5 {e0 e1 e2 e3 e4 e5 : D} (k : Q e5 S) : W (dIx (.lst (e0 :: e1 :: e2 :: e3 :: e4 :: e5 :: xs)) (dN 5) S) R Q := ix_gen (xs := e0 :: e1 :: e2 :: e3 :: e4 :: e5 :: xs) rfl rfl k
theorem o_mulL (h : n ≤ 1000000) (h' : xs.length * n ≤ bigN) (k : Q (.lst (List.replicate n xs).flatten) S) : W (dMul (.lst xs) (dN n) S) R Q := by
  have e : dMul (.lst xs) (dN n) S = .ok (.lst (List.replicate n xs).flatten) S := by
    show (if (n : Int) ≤ 1000000 ∧ -1000000 ≤ (n : Int) ∧ xs.length * (n : Int).toNat ≤ bigN then Rs.ok (D.lst (List.replicate (n : Int).toNat xs).flatten) S else .stk) = _
    rw [Int.toNat_natCast, if_pos ⟨by omega, by omega, h'⟩]
  rw [e]; exact ⟨k⟩
theorem flat1 {α : Type} (n : Nat) (x : α) : (List.replicate n [x]).flatten = List.replicate n x := by
  induction n with
  | zero => rfl
  | succ n ih => rw [List.replicate_succ, List.flatten_cons, ih]; rfl
theorem o_mul1 (h : n ≤ 1000000) (k : Q (.lst (List.replicate n d)) S) : W (dMul (.lst [d]) (dN n) S) R Q := o_mulL h (by simpa [bigN] using h) (by rw [flat1]; exact k)
theorem o_mulC (h : n ≤ 1000000) (k : Q (.ptr S.length) (S ++ [.lst (List.replicate n d)])) : W (dMulC (.lst [d]) (dN n) S) R Q := by
  have e : dMulC (.lst [d]) (dN n) S = .ok (.ptr S.length) (S ++ [.lst (List.replicate n d)]) := by
    rw [← flat1 n d]
    unfold dMulC dN
    simp only [Int.toNat_natCast]
    rw [if_pos ⟨by omega, by omega, by simp [bigN]; omega⟩]
  rw [e]; exact ⟨k⟩
/-! ### built-ins -/
theorem b_len (h : anyOf x S = some xs) (k : Q (dN xs.length) S) : W (dLen [x] S) R Q := by
  have e : dLen [x] S = .ok (dN xs.length) S := by
    unfold dLen
    cases x <;> first | (simp [anyOf] at h; done) | skip
    all_goals (simp only [h]; rfl)
  rw [e]; exact ⟨k⟩
theorem b_lenR {f : Nat → D} (k : Q (dN n) S) : W (dLen [.lst ((List.range n).map f)] S) R Q := b_len (xs := (List.range n).map f) rfl (by simpa using k)
theorem b_lenTb {f : Nat → Nat} (k : Q (dN n) S) : W (dLen [.lst (tab n f)] S) R Q := b_len (xs := tab n f) rfl (by simpa using k)
theorem b_lenM {f : α → D} {L : List α} (k : Q (dN L.length) S) : W (dLen [.lst (L.map f)] S) R Q := b_len (xs := L.map f) rfl (by simpa using k)
theorem b_lenMT {f : α → D} {L : List α} (k : Q (dN L.length) S) : W (dLen [.tup (L.map f)] S) R Q := b_len (xs := L.map f) rfl (by simpa using k)
theorem b_lenL (k : Q (dN xs.length) S) : W (dLen [.lst xs] S) R Q := b_len rfl k
theorem b_lenT (k : Q (dN xs.length) S) : W (dLen [.tup xs] S) R Q := b_len rfl k
theorem b_tupL (k : Q (.tup xs) S) : W (dTuple [.lst xs] S) R Q := ⟨k⟩
theorem b_tupT (k : Q (.tup xs) S) : W (dTuple [.tup xs] S) R Q := ⟨k⟩
theorem b_tupP (h : S[i]? = some (.lst xs)) (k : Q (.tup xs) S) : W (dTuple [.ptr i] S) R Q := by
  have e : dTuple [.ptr i] S = .ok (.tup xs) S := by simp [dTuple, seqOf, h]
  rw [e]; exact ⟨k⟩
theorem b_list (h : anyOf x S = some xs) (k : Q (.lst xs) S) : W (dList [x] S) R Q := by
  have e : dList [x] S = .ok (.lst xs) S := by unfold dList; simp only [h]
  rw [e]; exact ⟨k⟩
theorem b_intB {v : Bool} (k : Q (dN v.toNat) S) : W (dInt [.bl v] S) R Q := by
  cases v <;> exact ⟨k⟩
theorem b_intN (k : Q (dN n) S) : W (dInt [dN n] S) R Q := ⟨k⟩
theorem b_intI {i : Int} (k : Q (.int i) S) : W (dInt [.int i] S) R Q := ⟨k⟩
theorem b_boolB {v : Bool} (k : Q (.bl v) S) : W (dBool [.bl v] S) R Q := ⟨k⟩
theorem b_min (k : Q (dN (min n m)) S) : W (dMin2 [dN n, dN m] S) R Q := by
  refine ⟨?_⟩
  show Q (.int (if (m : Int) < (n : Int) then (m : Int) else (n : Int))) S
  have e : (if (m : Int) < (n : Int) then (m : Int) else (n : Int)) = ((min n m : Nat) : Int) := by split <;> omega
  rw [e]; exact k
theorem b_max (k : Q (dN (max n m)) S) : W (dMax2 [dN n, dN m] S) R Q := by
  refine ⟨?_⟩
  show Q (.int (if (m : Int) > (n : Int) then (m : Int) else (n : Int))) S
  have e : (if (m : Int) > (n : Int) then (m : Int) else (n : Int)) = ((max n m : Nat) : Int) := by split <;> omega
  rw [e]; exact k
theorem sl_T {lo hi : Option Int} (k : Q (.tup (cutD xs lo hi)) S) : W (dSl (.tup xs) lo hi S) R Q := ⟨k⟩
theorem sl_L {lo hi : Option Int} (k : Q (.lst (cutD xs lo hi)) S) : W (dSl (.lst xs) lo hi S) R Q := ⟨k⟩
theorem b_app (h : S[i]? = some (.lst xs)) (hb : xs.length < bigN) (k : Q .non (S.set i (.lst (xs ++ [x])))) : W (dAppend (.ptr i) [x] S) R Q := by
  have e : dAppend (.ptr i) [x] S = .ok .non (S.set i (.lst (xs ++ [x]))) := by
    unfold dAppend
    simp only [h]
    first | rw [if_pos hb] | rfl
  rw [e]; exact ⟨k⟩
theorem isPtrL_of (h : S[i]? = some (.lst xs)) {K : Prop} (k : K) : isPtrL (.ptr i) S = true ∧ K := ⟨by simp [isPtrL, h], k⟩
theorem put_n (h : S[i]? = some (.lst xs)) (hn : n < xs.length) {K : Sto → Prop} (k : K (S.set i (.lst (xs.set n x)))) : PutQ (stSet (.ptr i) (dN n) x S) K := by
  have e : stSet (.ptr i) (dN n) x S = some (S.set i (.lst (xs.set n x))) := by
    unfold stSet dN
    simp only [h]
    rw [ixNn hn]
  rw [e]; exact k
theorem intsOf_N : ∀ l : List Nat, intsOf (l.map dN) = some (l.map fun x : Nat => (x : Int))
  | [] => rfl
  | a :: l => by
    show (intsOf (l.map dN)).map _ = _
    rw [intsOf_N l]; rfl
/-! ### targets -/
theorem g_tup {n : Nat} {gs : List D → En → Option En} {K : En → Prop} (k : LenQ n ds (G (gs ds env) K)) : G (zgTup n gs (.tup ds) env) K := by
  show G (if ds.length = n then _ else none) K
  rw [if_pos k.1]; exact k.2
theorem g_unl {n : Nat} {gs : List D → En → Option En} {K : En → Prop} (k : LenQ n ds (G (gs ds env) K)) : G (zgUnl n gs (.lst ds) env) K := by
  show G (if ds.length = n then _ else none) K
  rw [if_pos k.1]; exact k.2
theorem g_pD {gs : List D → En → Option En} {p : Nat × Nat} {K : En → Prop} (k : G (gs [dN p.1, dN p.2] env) K) : G (zgTup 2 gs (pD p) env) K := k
theorem g_cons {g : GM} {gs : List D → En → Option En} {K : En → Prop} (k : G (g d env) fun e => G (gs ds e) K) : G (zgCons g gs (d :: ds) env) K := by
  show G (match g d env with | some e => _ | none => _) K
  cases h : g d env with
  | none => rw [h] at k; exact k
  | some e => rw [h] at k; exact k
theorem g_nil {K : En → Prop} (k : K env) : G (zgNil [] env) K := k
def VarQ (i : Nat) (env : En) (K : D → Prop) : Prop := match env[i]? with
  | some (some d) => K d
  | _ => False
def SetQ (i : Nat) (env : En) (d : D) (K : En → Prop) : Prop := K (env.set i (some d))
theorem vq_0 {tl : En} {K : D → Prop} (k : K d) : VarQ 0 (some d :: tl) K := k
theorem vq_s {e : Option D} {tl : En} {K : D → Prop} (k : VarQ i tl K) : VarQ (i + 1) (e :: tl) K := by
  unfold VarQ at k ⊢
  rw [List.getElem?_cons_succ]; exact k
theorem zq_0 {e : Option D} {tl : En} {K : En → Prop} (k : K (some d :: tl)) : SetQ 0 (e :: tl) d K := k
theorem zq_s {e : Option D} {tl : En} {K : En → Prop} (k : SetQ i tl d fun t => K (e :: t)) : SetQ (i + 1) (e :: tl) d K := k
theorem w_vq (k : VarQ i env fun d => Q d S) : W (zVar i env S) R Q := by
  unfold VarQ at k
  cases h : env[i]? with
  | none => rw [h] at k; exact k.elim
  | some o =>
    cases o with
    | none => rw [h] at k; exact k.elim
    | some d => rw [h] at k; exact w_var h k
theorem x_sq (k : W (a env S) (fun e S => QF (.exc e env) S) fun d S1 => SetQ i env d fun env' => QF (.next env') S1) : X (zSet i a env S) QF := x_st (w_use k (fun _ _ q => q) fun _ _ q => ⟨q⟩)
theorem g_zq {K : En → Prop} (k : SetQ i env d K) : G (zgName i d env) K := k
theorem x_aq {o : D → D → Sto → Rs D} (k : VarQ i env fun d => W (a env S) (fun e S => QF (.exc e env) S) fun y S1 => W (o d y S1) (fun e S => QF (.exc e env) S) fun w S2 => SetQ i env w fun env' => QF (.next env') S2) : X (zAug i o a env S) QF := by
  unfold VarQ at k
  unfold zAug
  cases h : env[i]? with
  | none => rw [h] at k; exact k.elim
  | some o' =>
    cases o' with
    | none => rw [h] at k; exact k.elim
    | some d => rw [h] at k; exact x_st (w_use k (fun _ _ q => q) fun _ _ q => x_st (w_use q (fun _ _ q => q) fun _ _ q => ⟨q⟩))

theorem iq_tuple_tup {S : Sto} {xs : List D} {K : Bool → Prop} (k : K true) : IsiQ ["tuple"] (.tup xs) S K := ⟨"tuple", rfl, by rw [show ["tuple"].any (subT "tuple") = true by decide +kernel]; exact k⟩
theorem iq_tuple_lst {S : Sto} {xs : List D} {K : Bool → Prop} (k : K false) : IsiQ ["tuple"] (.lst xs) S K := ⟨"list", rfl, by rw [show ["tuple"].any (subT "list") = false by decide +kernel]; exact k⟩
theorem iq_tuple_N {S : Sto} {n : Nat} {K : Bool → Prop} (k : K false) : IsiQ ["tuple"] (dN n) S K := ⟨"int", rfl, by rw [show ["tuple"].any (subT "int") = false by decide +kernel]; exact k⟩
theorem iq_tuple_I {S : Sto} {j : Int} {K : Bool → Prop} (k : K false) : IsiQ ["tuple"] (.int j) S K := ⟨"int", rfl, by rw [show ["tuple"].any (subT "int") = false by decide +kernel]; exact k⟩
theorem iq_tuple_str {S : Sto} {z : Str} {K : Bool → Prop} (k : K false) : IsiQ ["tuple"] (.str z) S K := ⟨"str", rfl, by rw [show ["tuple"].any (subT "str") = false by decide +kernel]; exact k⟩
theorem iq_tuple_bl {S : Sto} {w : Bool} {K : Bool → Prop} (k : K false) : IsiQ ["tuple"] (.bl w) S K := ⟨"bool", rfl, by rw [show ["tuple"].any (subT "bool") = false by decide +kernel]; exact k⟩
theorem iq_tuple_non {S : Sto} {K : Bool → Prop} (k : K false) : IsiQ ["tuple"] .non S K := ⟨"NoneType", rfl, by rw [show ["tuple"].any (subT "NoneType") = false by decide +kernel]; exact k⟩
theorem iq_list_tup {S : Sto} {xs : List D} {K : Bool → Prop} (k : K false) : IsiQ ["list"] (.tup xs) S K := ⟨"tuple", rfl, by rw [show ["list"].any (subT "tuple") = false by decide +kernel]; exact k⟩
theorem iq_list_lst {S : Sto} {xs : List D} {K : Bool → Prop} (k : K true) : IsiQ ["list"] (.lst xs) S K := ⟨"list", rfl, by rw [show ["list"].any (subT "list") = true by decide +kernel]; exact k⟩
theorem iq_list_N {S : Sto} {n : Nat} {K : Bool → Prop} (k : K false) : IsiQ ["list"] (dN n) S K := ⟨"int", rfl, by rw [show ["list"].any (subT "int") = false by decide +kernel]; exact k⟩
theorem iq_list_I {S : Sto} {j : Int} {K : Bool → Prop} (k : K false) : IsiQ ["list"] (.int j) S K := ⟨"int", rfl, by rw [show ["list"].any (subT "int") = false by decide +kernel]; exact k⟩
theorem iq_list_str {S : Sto} {z : Str} {K : Bool → Prop} (k : K false) : IsiQ ["list"] (.str z) S K := ⟨"str", rfl, by rw [show ["list"].any (subT "str") = false by decide +kernel]; exact k⟩
theorem iq_list_bl {S : Sto} {w : Bool} {K : Bool → Prop} (k : K false) : IsiQ ["list"] (.bl w) S K := ⟨"bool", rfl, by rw [show ["list"].any (subT "bool") = false by decide +kernel]; exact k⟩
theorem iq_list_non {S : Sto} {K : Bool → Prop} (k : K false) : IsiQ ["list"] .non S K := ⟨"NoneType", rfl, by rw [show ["list"].any (subT "NoneType") = false by decide +kernel]; exact k⟩
theorem iq_bool_tup {S : Sto} {xs : List D} {K : Bool → Prop} (k : K false) : IsiQ ["bool"] (.tup xs) S K := ⟨"tuple", rfl, by rw [show ["bool"].any (subT "tuple") = false by decide +kernel]; exact k⟩
theorem iq_bool_lst {S : Sto} {xs : List D} {K : Bool → Prop} (k : K false) : IsiQ ["bool"] (.lst xs) S K := ⟨"list", rfl, by rw [show ["bool"].any (subT "list") = false by decide +kernel]; exact k⟩
theorem iq_bool_N {S : Sto} {n : Nat} {K : Bool → Prop} (k : K false) : IsiQ ["bool"] (dN n) S K := ⟨"int", rfl, by rw [show ["bool"].any (subT "int") = false by decide +kernel]; exact k⟩
theorem iq_bool_I {S : Sto} {j : Int} {K : Bool → Prop} (k : K false) : IsiQ ["bool"] (.int j) S K := ⟨"int", rfl, by rw [show ["bool"].any (subT "int") = false by decide +kernel]; exact k⟩
theorem iq_bool_str {S : Sto} {z : Str} {K : Bool → Prop} (k : K false) : IsiQ ["bool"] (.str z) S K := ⟨"str", rfl, by rw [show ["bool"].any (subT "str") = false by decide +kernel]; exact k⟩
theorem iq_bool_bl {S : Sto} {w : Bool} {K : Bool → Prop} (k : K true) : IsiQ ["bool"] (.bl w) S K := ⟨"bool", rfl, by rw [show ["bool"].any (subT "bool") = true by decide +kernel]; exact k⟩
theorem iq_bool_non {S : Sto} {K : Bool → Prop} (k : K false) : IsiQ ["bool"] .non S K := ⟨"NoneType", rfl, by rw [show ["bool"].any (subT "NoneType") = false by decide +kernel]; exact k⟩
theorem iq_int_tup {S : Sto} {xs : List D} {K : Bool → Prop} (k : K false) : IsiQ ["int"] (.tup xs) S K := ⟨"tuple", rfl, by rw [show ["int"].any (subT "tuple") = false by decide +kernel]; exact k⟩
theorem iq_int_lst {S : Sto} {xs : List D} {K : Bool → Prop} (k : K false) : IsiQ ["int"] (.lst xs) S K := ⟨"list", rfl, by rw [show ["int"].any (subT "list") = false by decide +kernel]; exact k⟩
theorem iq_int_N {S : Sto} {n : Nat} {K : Bool → Prop} (k : K true) : IsiQ ["int"] (dN n) S K := ⟨"int", rfl, by rw [show ["int"].any (subT "int") = true by decide +kernel]; exact k⟩
theorem iq_int_I {S : Sto} {j : Int} {K : Bool → Prop} (k : K true) : IsiQ ["int"] (.int j) S K := ⟨"int", rfl, by rw [show ["int"].any (subT "int") = true by decide +kernel]; exact k⟩
theorem iq_int_str {S : Sto} {z : Str} {K : Bool → Prop} (k : K false) : IsiQ ["int"] (.str z) S K := ⟨"str", rfl, by rw [show ["int"].any (subT "str") = false by decide +kernel]; exact k⟩
theorem iq_int_bl {S : Sto} {w : Bool} {K : Bool → Prop} (k : K true) : IsiQ ["int"] (.bl w) S K := ⟨"bool", rfl, by rw [show ["int"].any (subT "bool") = true by decide +kernel]; exact k⟩
theorem iq_int_non {S : Sto} {K : Bool → Prop} (k : K false) : IsiQ ["int"] .non S K := ⟨"NoneType", rfl, by rw [show ["int"].any (subT "NoneType") = false by decide +kernel]; exact k⟩
theorem iq_str_tup {S : Sto} {xs : List D} {K : Bool → Prop} (k : K false) : IsiQ ["str"] (.tup xs) S K := ⟨"tuple", rfl, by rw [show ["str"].any (subT "tuple") = false by decide +kernel]; exact k⟩
theorem iq_str_lst {S : Sto} {xs : List D} {K : Bool → Prop} (k : K false) : IsiQ ["str"] (.lst xs) S K := ⟨"list", rfl, by rw [show ["str"].any (subT "list") = false by decide +kernel]; exact k⟩
theorem iq_str_N {S : Sto} {n : Nat} {K : Bool → Prop} (k : K false) : IsiQ ["str"] (dN n) S K := ⟨"int", rfl, by rw [show ["str"].any (subT "int") = false by decide +kernel]; exact k⟩
theorem iq_str_I {S : Sto} {j : Int} {K : Bool → Prop} (k : K false) : IsiQ ["str"] (.int j) S K := ⟨"int", rfl, by rw [show ["str"].any (subT "int") = false by decide +kernel]; exact k⟩
theorem iq_str_str {S : Sto} {z : Str} {K : Bool → Prop} (k : K true) : IsiQ ["str"] (.str z) S K := ⟨"str", rfl, by rw [show ["str"].any (subT "str") = true by decide +kernel]; exact k⟩
theorem iq_str_bl {S : Sto} {w : Bool} {K : Bool → Prop} (k : K false) : IsiQ ["str"] (.bl w) S K := ⟨"bool", rfl, by rw [show ["str"].any (subT "bool") = false by decide +kernel]; exact k⟩
theorem iq_str_non {S : Sto} {K : Bool → Prop} (k : K false) : IsiQ ["str"] .non S K := ⟨"NoneType", rfl, by rw [show ["str"].any (subT "NoneType") = false by decide +kernel]; exact k⟩
theorem lq_0 (k : P) : LenQ 0 [] P := ⟨rfl, k⟩
theorem lb_0 (k : P) : LenB [] P := ⟨by simp [bigN], k⟩
theorem lq_1 {e0 : D} (k : P) : LenQ 1 [e0] P := ⟨rfl, k⟩
theorem lb_1 {e0 : D} (k : P) : LenB [e0] P := ⟨by simp [bigN], k⟩
theorem lq_2 {e0 e1 : D} (k : P) : LenQ 2 [e0, e1] P := ⟨rfl, k⟩
theorem lb_2 {e0 e1 : D} (k : P) : LenB [e0, e1] P := ⟨by simp [bigN], k⟩
theorem lq_3 {e0 e1 e2 : D} (k : P) : LenQ 3 [e0, e1, e2] P := ⟨rfl, k⟩
theorem lb_3 {e0 e1 e2 : D} (k : P) : LenB [e0, e1, e2] P := ⟨by simp [bigN], k⟩
theorem lq_4 {e0 e1 e2 e3 : D} (k : P) : LenQ 4 [e0, e1, e2, e3] P := ⟨rfl, k⟩
theorem lb_4 {e0 e1 e2 e3 : D} (k : P) : LenB [e0, e1, e2, e3] P := ⟨by simp [bigN], k⟩
theorem lq_5 {e0 e1 e2 e3 e4 : D} (k : P) : LenQ 5 [e0, e1, e2, e3, e4] P := ⟨rfl, k⟩
theorem lb_5 {e0 e1 e2 e3 e4 : D} (k : P) : LenB [e0, e1, e2, e3, e4] P := ⟨by simp [bigN], k⟩
theorem lq_6 {e0 e1 e2 e3 e4 e5 : D} (k : P) : LenQ 6 [e0, e1, e2, e3, e4, e5] P := ⟨rfl, k⟩
theorem lb_6 {e0 e1 e2 e3 e4 e5 : D} (k : P) : LenB [e0, e1, e2, e3, e4, e5] P := ⟨by simp [bigN], k⟩
theorem lq_7 {e0 e1 e2 e3 e4 e5 e6 : D} (k : P) : LenQ 7 [e0, e1, e2, e3, e4, e5, e6] P := ⟨rfl, k⟩
theorem lb_7 {e0 e1 e2 e3 e4 e5 e6 : D} (k : P) : LenB [e0, e1, e2, e3, e4, e5, e6] P := ⟨by simp [bigN], k⟩
theorem lq_8 {e0 e1 e2 e3 e4 e5 e6 e7 : D} (k : P) : LenQ 8 [e0, e1, e2, e3, e4, e5, e6, e7] P := ⟨rfl, k⟩
theorem lb_8 {e0 e1 e2 e3 e4 e5 e6 e7 : D} (k : P) : LenB [e0, e1, e2, e3, e4, e5, e6, e7] P := ⟨by simp [bigN], k⟩
theorem lq_9 {e0 e1 e2 e3 e4 e5 e6 e7 e8 : D} (k : P) : LenQ 9 [e0, e1, e2, e3, e4, e5, e6, e7, e8] P := ⟨rfl, k⟩
theorem lb_9 {e0 e1 e2 e3 e4 e5 e6 e7 e8 : D} (k : P) : LenB [e0, e1, e2, e3, e4, e5, e6, e7, e8] P := ⟨by simp [bigN], k⟩
theorem lb_10 {e0 e1 e2 e3 e4 e5 e6 e7 e8 e9 : D} (k : P) : LenB [e0, e1, e2, e3, e4, e5, e6, e7, e8, e9] P := ⟨by simp [bigN], k⟩
theorem lb_11 {e0 e1 e2 e3 e4 e5 e6 e7 e8 e9 e10 : D} (k : P) : LenB [e0, e1, e2, e3, e4, e5, e6, e7, e8, e9, e10] P := ⟨by simp [bigN], k⟩
theorem lb_12 {e0 e1 e2 e3 e4 e5 e6 e7 e8 e9 e10 e11 : D} (k : P) : LenB [e0, e1, e2, e3, e4, e5, e6, e7, e8, e9, e10, e11] P := ⟨by simp [bigN], k⟩
theorem lb_13 {e0 e1 e2 e3 e4 e5 e6 e7 e8 e9 e10 e11 e12 : D} (k : P) : LenB [e0, e1, e2, e3, e4, e5, e6, e7, e8, e9, e10, e11, e12] P := ⟨by simp [bigN], k⟩
theorem lqr_1 {e0 : D} {F : List D → Sto → Rs D} (k : W (F [e0] S) R Q) : LenQ 1 (permL [0] ([] ++ [e0])) (W (F (permL [0] ([] ++ [e0])) S) R Q) := lqk rfl rfl k
theorem lqr_2 {e0 e1 : D} {F : List D → Sto → Rs D} (k : W (F [e1, e0] S) R Q) : LenQ 2 (permL [1, 0] ([] ++ [e0, e1])) (W (F (permL [1, 0] ([] ++ [e0, e1])) S) R Q) := lqk rfl rfl k
theorem lqr_3 {e0 e1 e2 : D} {F : List D → Sto → Rs D} (k : W (F [e2, e1, e0] S) R Q) : LenQ 3 (permL [2, 1, 0] ([] ++ [e0, e1, e2])) (W (F (permL [2, 1, 0] ([] ++ [e0, e1, e2])) S) R Q) := lqk rfl rfl k
theorem lqr_4 {e0 e1 e2 e3 : D} {F : List D → Sto → Rs D} (k : W (F [e3, e2, e1, e0] S) R Q) : LenQ 4 (permL [3, 2, 1, 0] ([] ++ [e0, e1, e2, e3])) (W (F (permL [3, 2, 1, 0] ([] ++ [e0, e1, e2, e3])) S) R Q) := lqk rfl rfl k
theorem lqr_5 {e0 e1 e2 e3 e4 : D} {F : List D → Sto → Rs D} (k : W (F [e4, e3, e2, e1, e0] S) R Q) : LenQ 5 (permL [4, 3, 2, 1, 0] ([] ++ [e0, e1, e2, e3, e4])) (W (F (permL [4, 3, 2, 1, 0] ([] ++ [e0, e1, e2, e3, e4])) S) R Q) := lqk rfl rfl k
theorem lqr_6 {e0 e1 e2 e3 e4 e5 : D} {F : List D → Sto → Rs D} (k : W (F [e5, e4, e3, e2, e1, e0] S) R Q) : LenQ 6 (permL [5, 4, 3, 2, 1, 0] ([] ++ [e0, e1, e2, e3, e4, e5])) (W (F (permL [5, 4, 3, 2, 1, 0] ([] ++ [e0, e1, e2, e3, e4, e5])) S) R Q) := lqk rfl rfl k
theorem lqr_7 {e0 e1 e2 e3 e4 e5 e6 : D} {F : List D → Sto → Rs D} (k : W (F [e6, e5, e4, e3, e2, e1, e0] S) R Q) : LenQ 7 (permL [6, 5, 4, 3, 2, 1, 0] ([] ++ [e0, e1, e2, e3, e4, e5, e6])) (W (F (permL [6, 5, 4, 3, 2, 1, 0] ([] ++ [e0, e1, e2, e3, e4, e5, e6])) S) R Q) := lqk rfl rfl k
/-! ### the whole of a def -/
theorem wf {fu : Nat} {N : List Str} {run : SM} (h : X (run (startE N ds) S) (FinQ fu S R Q)) : W (Fof fu N run ds S) R Q := by
  unfold Fof
  cases hr : run (startE N ds) S with
  | stk => rw [hr] at h; exact h.of.elim
  | mk f S1 =>
    rw [hr] at h
    cases f with
    | ret d => exact h.of
    | next e => exact h.of
    | brk e => exact h.of.elim
    | cnt e => exact h.of.elim
    | exc e env =>
      obtain ⟨h1, h2⟩ := h.of
      rw [finX_eq, if_pos h1]; exact ⟨h2⟩
theorem fin_same {fu : Nat} {L' : Sto} (hf : frz fu d S1 = some (d1, L')) (hc : Shut S d1 L') (k : Q d1 (L'.take S.length)) : FinQ fu S R Q (.ret d) S1 := by
  show W (fin0 fu S d S1) R Q
  unfold fin0
  rw [hf]
  simp only []
  rw [if_pos hc]; exact ⟨k⟩
/-- the store as it was, but for cells behind it -/
theorem fin_pure {fu : Nat} {L L' : Sto} (hf : frz fu d (S ++ L) = some (d1, S ++ L')) (hc : D.cl S.length d1) (k : Q d1 S) : FinQ fu S R Q (.ret d) (S ++ L) := fin_same hf (shut_app hc) (by rw [List.take_left' rfl]; exact k)
theorem fin_p0 (hc : D.cl S.length d) (k : Q d S) : FinQ 0 S R Q (.ret d) S := fin_same (L' := S) (by unfold frz; rfl) (shut_self hc) (by rw [List.take_length]; exact k)
theorem fin_pL {L : Sto} (hc : D.cl S.length d) (k : Q d S) : FinQ 0 S R Q (.ret d) (S ++ L) := fin_pure (L := L) (L' := L) (by unfold frz; rfl) hc k
/-- a list that the def made -/
theorem fin_one (hc : D.cl S.length (.lst xs)) (k : Q (.lst xs) S) : FinQ 1 S R Q (.ret (.ptr S.length)) (S ++ [.lst xs]) := fin_pure frz_one hc k
theorem frz_oneAt {L1 L2 : Sto} : frz 1 (.ptr (S.length + L1.length)) (S ++ (L1 ++ .lst xs :: L2)) = some (.lst xs, S ++ (L1 ++ .gone :: L2)) := by
  have h : (S ++ (L1 ++ C.lst xs :: L2))[S.length + L1.length]? = some (.lst xs) := by
    rw [List.getElem?_append_right (by omega)]
    simp
  simp only [frz, h, frzs]
  congr 2
  rw [List.set_append_right _ _ (by omega)]
  simp
end
/-! ### loops -/
def Lp (P : En → Sto → Prop) (QF : Fl → Sto → Prop) : Fl → Sto → Prop
  | .next e, S => P e S
  | .cnt e, S => P e S
  | .brk e, S => QF (.next e) S
  | f, S => QF f S
section
variable {α : Type} {env : En} {S : Sto} {QF : Fl → Sto → Prop} {g : GM} {b : SM} {mk : α → D}
theorem lp_next {P : En → Sto → Prop} (k : P env S) : Lp P QF (.next env) S := k
theorem lp_cnt {P : En → Sto → Prop} (k : P env S) : Lp P QF (.cnt env) S := k
theorem lp_brk {P : En → Sto → Prop} (k : QF (.next env) S) : Lp P QF (.brk env) S := k
theorem lp_ret {P : En → Sto → Prop} {d : D} (k : QF (.ret d) S) : Lp P QF (.ret d) S := k
theorem lp_exc {P : En → Sto → Prop} {e : XV} (k : QF (.exc e env) S) : Lp P QF (.exc e env) S := k
theorem for_items {s : Src} (hs : ∀ T, s.okAt T = true) (P : List α → En → Sto → Prop) : ∀ (L : List α) (env : En) (S : Sto), P L env S →
    (∀ a L' env T, (∃ L0, L = L0 ++ a :: L') → P (a :: L') env T → G (g (mk a) env) fun e => X (b e T) (Lp (P L') QF)) → (∀ env T, P [] env T → QF (.next env) T) → X (forL s g b (L.map mk) env S) QF
  | [], env, S, h, _, fin => by
    rw [List.map_nil, forL]
    show X (if s.okAt S = true then _ else _) QF
    rw [if_pos (hs S)]; exact ⟨fin _ _ h⟩
  | a :: L, env, S, h, step, fin => by
    have q := step a L env S ⟨[], rfl⟩ h
    rw [List.map_cons, forL]
    show X (if s.okAt S = true then _ else _) QF
    rw [if_pos (hs S)]
    cases hg : g (mk a) env with
    | none => rw [hg] at q; exact q.elim
    | some e =>
      rw [hg] at q
      have q : X (b e S) (Lp (P L) QF) := q
      show X ((b e S).turn (forL s g b (L.map mk))) QF
      cases hb : b e S with
      | stk => rw [hb] at q; exact q.of.elim
      | mk f S1 =>
        rw [hb] at q
        have go : ∀ e1, P L e1 S1 → X (forL s g b (L.map mk) e1 S1) QF := fun e1 h1 => for_items hs P L e1 S1 h1 (fun a' L' env' T ⟨L0, e'⟩ => step a' L' env' T ⟨a :: L0, by rw [e']; rfl⟩) fin
        cases f with
        | next e1 => exact go e1 q.of
        | cnt e1 => exact go e1 q.of
        | brk e1 => exact ⟨q.of⟩
        | ret d => exact ⟨q.of⟩
        | exc x e1 => exact ⟨q.of⟩
/-- by the items that are left -/
theorem for_l {L : List α} (P : List α → En → Sto → Prop) (h0 : P L env S) (step : ∀ a L' env T, (∃ L0, L = L0 ++ a :: L') → P (a :: L') env T → G (g (mk a) env) fun e => X (b e T) (Lp (P L') QF)) (fin : ∀ env T, P [] env T → QF (.next env) T) : ForL ⟨L.map mk, none⟩ g b env S QF := for_items (fun _ => rfl) P L env S h0 step fin
/-- by the number of items done -/
theorem for_n (L : List α) (P : Nat → En → Sto → Prop) (h0 : P 0 env S) (step : ∀ i (hi : i < L.length) env T, P i env T → G (g (mk L[i]) env) fun e => X (b e T) (Lp (P (i + 1)) QF)) (fin : ∀ env T, P L.length env T → QF (.next env) T) : ForL ⟨L.map mk, none⟩ g b env S QF := by
  refine for_items (fun _ => rfl) (fun L' env T => P (L.length - L'.length) env T) L env S (by simpa using h0) (fun a L' env T hL hP => ?_) (fun env T hP => fin env T (by simpa using hP))
  obtain ⟨L0, rfl⟩ := hL
  have e1 : (L0 ++ a :: L').length - (a :: L').length = L0.length := by simp
  have e2 : (L0 ++ a :: L').length - L'.length = L0.length + 1 := by simp; omega
  rw [e1] at hP
  rw [e2]
  have := step L0.length (by simp) env T hP
  simpa using this
theorem for_r {n : Nat} (P : Nat → En → Sto → Prop) (h0 : P 0 env S) (step : ∀ i, i < n → ∀ env T, P i env T → G (g (dN i) env) fun e => X (b e T) (Lp (P (i + 1)) QF)) (fin : ∀ env T, P n env T → QF (.next env) T) : ForL ⟨(List.range n).map dN, none⟩ g b env S QF :=
  for_n (List.range n) P h0 (fun i hi env T h => by
    rw [List.getElem_range]
    exact step i (by simpa using hi) env T h) fun env T h => fin env T (by simpa using h)
theorem for_r2 {m n : Nat} (P : Nat → En → Sto → Prop) (h0 : P 0 env S) (step : ∀ i, m + i < n → ∀ env T, P i env T → G (g (dN (m + i)) env) fun e => X (b e T) (Lp (P (i + 1)) QF)) (fin : ∀ env T, P (n - m) env T → QF (.next env) T) : ForL ⟨(List.range' m (n - m)).map dN, none⟩ g b env S QF :=
  for_n (List.range' m (n - m)) P h0 (fun i hi env T h => by
    rw [List.getElem_range', Nat.one_mul]
    exact step i (by simp at hi; omega) env T h) fun env T h => fin env T (by simpa using h)
/-- while: k bounds the turns that are left -/
theorem while_n {c : EM Bool} {N : En → Sto → Nat} (P : Nat → En → Sto → Prop) {k : Nat} (h0 : P k env S) (hN : k < N env S)
    (step : ∀ k env T, P k env T → W (c env T) (fun e S => QF (.exc e env) S) fun v T1 => Br v (X (b env T1) (Lp (fun e T2 => ∃ k', k' < k ∧ P k' e T2) QF)) (QF (.next env) T1)) : X (zWhile N c b env S) QF := by
  have go : ∀ (m k : Nat) (env : En) (T : Sto), k < m → P k env T → X (whileN c b m env T) QF := by
    intro m
    induction m with
    | zero => intro k env T h _; omega
    | succ m ih =>
      intro k env T h hP
      rw [whileN]
      refine x_st (w_use (step k env T hP) (fun _ _ q => q) fun v T1 q => ?_)
      cases v with
      | false => exact ⟨q.of⟩
      | true =>
        have q : X (b env T1) (Lp (fun e T2 => ∃ k', k' < k ∧ P k' e T2) QF) := q.of
        rw [if_pos rfl]
        cases hb : b env T1 with
        | stk => rw [hb] at q; exact q.of.elim
        | mk f T2 =>
          rw [hb] at q
          cases f with
          | next e => obtain ⟨k', h1, h2⟩ := q.of; exact ih k' e T2 (by omega) h2
          | cnt e => obtain ⟨k', h1, h2⟩ := q.of; exact ih k' e T2 (by omega) h2
          | brk e => exact ⟨q.of⟩
          | ret d => exact ⟨q.of⟩
          | exc x e => exact ⟨q.of⟩
  exact go _ k env S hN h0
theorem x_for {fi : EI} (k : W (fi env S) (fun e S => QF (.exc e env) S) fun s T => ForL s g b env T QF) : X (zFor fi g b env S) QF := x_st k
end
/-! ### comprehensions -/
section
variable {α : Type} {env : En} {S : Sto} {Q : D → Sto → Prop} {g : GM} {ft : EM Bool} {fe : EM D} {mk v : α → D} {p : α → Bool} {k : Mk} {R : XV → Sto → Prop}
theorem w_lcK {vs : List Nat} {fi : EI} (h : W (fi env S) R fun s T => LcA k s g ft fe (wipeE env vs) T Q) : W (zLcK k vs fi g ft fe env S) R Q := w_bnd (w_use h (fun _ _ q => q) fun _ _ q => w_use q (fun _ _ q => q.elim) fun _ _ q => q)
theorem w_lc2K {vs vs1 : List Nat} {fi fi1 : EI} {g1 : GM} {ft1 : EM Bool} (h : W (fi env S) R fun s T => LcB k s g ft fi1 g1 ft1 fe vs1 (wipeE env vs) T Q) : W (zLc2K k vs vs1 fi g ft fi1 g1 ft1 fe env S) R Q := w_bnd (w_use h (fun _ _ q => q) fun _ _ q => w_use q (fun _ _ q => q.elim) fun _ _ q => q)
theorem w_tG {vs : List Nat} {fi : EI} (h : W (fi env S) R fun s T => TgA s g ft fe (wipeE env vs) T Q) : W (zTG vs fi g ft fe env S) R Q := w_bnd (w_use h (fun _ _ q => q) fun _ _ q => w_use q (fun _ _ q => q.elim) fun _ _ q => q)
theorem w_qG {pol : Bool} {vs : List Nat} {fi : EI} (h : W (fi env S) R fun s T => QgA pol s g ft fe (wipeE env vs) T Q) : W (zQG pol vs fi g ft fe env S) R Q := w_bnd (w_use h (fun _ _ q => q) fun _ _ q => w_use q (fun _ _ q => q.elim) fun _ _ q => q)
theorem G_ex {r : Option En} {K : En → Prop} (h : G r K) : ∃ e, r = some e ∧ K e := by
  cases r with
  | none => exact h.elim
  | some e => exact ⟨e, rfl, h⟩
theorem step_of {a : α} (h : G (g (mk a) env) fun e => W (ft e S) N0 fun c T => c = p a ∧ T = S ∧ (p a = true → W (fe e S) N0 fun d T => d = v a ∧ T = S)) : ∃ env1, g (mk a) env = some env1 ∧ ft env1 S = .ok (p a) S ∧ (p a = true → fe env1 S = .ok (v a) S) := by
  obtain ⟨e, h1, h2⟩ := G_ex h
  obtain ⟨c, T, h3, h4, h5, h6⟩ := w_ex h2
  subst h4 h5
  exact ⟨e, h1, h3, fun hp => w_eq (h6 hp)⟩
/-- the store is left alone -/
theorem lc_pure {L : List α} (hb : L.length ≤ bigN) (h : ∀ a ∈ L, G (g (mk a) env) fun e => W (ft e S) N0 fun c T => c = p a ∧ T = S ∧ (p a = true → W (fe e S) N0 fun d T => d = v a ∧ T = S)) (q : W (k.res ((L.filter p).map v) S) N0 Q) : LcA k ⟨L.map mk, none⟩ g ft fe env S Q := by
  unfold LcA
  show W ((lcA ⟨L.map mk, none⟩ g ft fe env (L.map mk) [] S).bnd k.res) N0 Q
  rw [lcA_pure rfl L [] (by simpa using hb) fun a ha => step_of (h a ha)]
  exact q
theorem okAt_of {xs : List D} {n : Nat} (h : S[n]? = some (.lst xs)) : Src.okAt ⟨xs, some n⟩ S = true := by
  unfold Src.okAt
  simp [h]
theorem src_ptr {xs : List D} {n : Nat} {K : Src → Prop} (h : S[n]? = some (.lst xs)) (q : K ⟨xs, some n⟩) : ∃ s, srcOf (.ptr n) S = some s ∧ K s := ⟨⟨xs, some n⟩, by simp [srcOf, h], q⟩
/-- without a test -/
theorem lc_map {L : List α} (hb : L.length ≤ bigN) (h : ∀ a ∈ L, G (g (mk a) env) fun e => W (fe e S) N0 fun d T => d = v a ∧ T = S) (q : W (k.res (L.map v) S) N0 Q) : LcA k ⟨L.map mk, none⟩ g zYes fe env S Q := by
  refine lc_pure (p := fun _ => true) (v := v) hb (fun a ha => ?_) (by rw [filter_tt]; exact q)
  obtain ⟨e, h1, h2⟩ := G_ex (h a ha)
  rw [h1]
  exact (show W (zYes e S) N0 _ from ⟨⟨rfl, rfl, fun _ => h2⟩⟩)
theorem tg_pure {L : List α} (hb : L.length ≤ bigN) (h : ∀ a ∈ L, G (g (mk a) env) fun e => W (ft e S) N0 fun c T => c = p a ∧ T = S ∧ (p a = true → W (fe e S) N0 fun d T => d = v a ∧ T = S)) (q : Q (.tup ((L.filter p).map v)) S) : TgA ⟨L.map mk, none⟩ g ft fe env S Q := by
  unfold TgA
  show W ((lcA ⟨L.map mk, none⟩ g ft fe env (L.map mk) [] S).bnd _) N0 Q
  rw [lcA_pure rfl L [] (by simpa using hb) fun a ha => step_of (h a ha)]
  exact ⟨q⟩
/-- the store may change: P after i items -/
theorem lc_any {L : List α} (P : Nat → List D → Sto → Prop) (hb : L.length ≤ bigN) (h0 : P 0 [] S) (step : ∀ i (hi : i < L.length) acc T, P i acc T → G (g (mk L[i]) env) fun e => W (ft e T) N0 fun c T1 => Br c (W (fe e T1) N0 fun d T2 => P (i + 1) (acc ++ [d]) T2) (P (i + 1) acc T1))
    (fin : ∀ acc T, acc.length ≤ L.length → P L.length acc T → W (k.res acc T) N0 Q) : LcA k ⟨L.map mk, none⟩ g ft fe env S Q := by
  have go : ∀ (L' : List α) (L0 : List α) (acc : List D) (T : Sto), L = L0 ++ L' → acc.length ≤ L0.length → P L0.length acc T → W (lcA ⟨L.map mk, none⟩ g ft fe env (L'.map mk) acc T) N0 fun acc T => acc.length ≤ L.length ∧ P L.length acc T := by
    intro L'
    induction L' with
    | nil =>
      intro L0 acc T e hl hP
      rw [List.append_nil] at e
      subst e
      rw [List.map_nil, lcA]
      rw [if_pos (show Src.okAt ⟨L.map mk, none⟩ T = true from rfl)]
      exact ⟨⟨hl, hP⟩⟩
    | cons a L' ih =>
      intro L0 acc T e hl hP
      have hi : L0.length < L.length := by rw [e]; simp
      have hLi : L[L0.length] = a := by simp [e]
      have st := step L0.length hi acc T hP
      rw [hLi] at st
      obtain ⟨env1, h1, h2⟩ := G_ex st
      rw [List.map_cons, lcA]
      rw [if_pos (show Src.okAt ⟨L.map mk, none⟩ T = true from rfl), h1]
      refine w_bnd (w_nox (w_use0 h2 fun c T1 q => ?_))
      have e' : L = (L0 ++ [a]) ++ L' := by rw [e, List.append_assoc]; rfl
      have el : (L0 ++ [a]).length = L0.length + 1 := by simp
      cases c with
      | false =>
        rw [if_neg (by decide)]
        exact ih (L0 ++ [a]) acc T1 e' (by rw [el]; omega) (by rw [el]; exact q.of)
      | true =>
        rw [if_pos rfl]
        refine w_bnd (w_nox (w_use0 (show W (fe env1 T1) N0 _ from q.of) fun d T2 q2 => ?_))
        rw [if_pos (show acc.length < bigN by omega)]
        exact ih (L0 ++ [a]) (acc ++ [d]) T2 e' (by rw [el, List.length_append]; simp; omega) (by rw [el]; exact q2)
  unfold LcA
  show W ((lcA ⟨L.map mk, none⟩ g ft fe env (L.map mk) [] S).bnd k.res) N0 Q
  exact w_bnd (w_use0 (go L [] [] S rfl (Nat.le_refl _) h0) fun acc T q => fin acc T q.1 q.2)
end
end V

namespace V
open PySem L2 Z
open PySem.Spec PyProof.Rows
variable [Tabs]
/-! ### a def that may change one cell only -/
structure Kd where
  ok : C → Prop
  cl : ∀ k c, ok c → C.cl k c
def At (K : Kd) (ib : Nat) (S : Sto) : Prop := ∃ c, S[ib]? = some c ∧ K.ok c
structure Ef (K : Kd) (ib : Nat) (S S' : Sto) : Prop where
  at_ : At K ib S'
  len : S'.length = S.length
  same : ∀ n, n ≠ ib → S'[n]? = S[n]?
section
variable {K : Kd} {ib : Nat} {S S' S1 L : Sto} {R : XV → Sto → Prop} {Q : D → Sto → Prop} {d d1 : D} {fu : Nat} {env : En}
theorem At.lt (h : At K ib S) : ib < S.length := let ⟨_, h, _⟩ := h; (List.getElem?_eq_some_iff.mp h).1
theorem At.app (h : At K ib S) (L : Sto) : At K ib (S ++ L) := let ⟨c, h1, h2⟩ := h; ⟨c, by rw [List.getElem?_append_left h.lt]; exact h1, h2⟩
theorem Ef.trans (h : Ef K ib S S1) (h' : Ef K ib S1 S') : Ef K ib S S' := ⟨h'.at_, h'.len.trans h.len, fun n hn => (h'.same n hn).trans (h.same n hn)⟩
theorem Ef.lt (h : Ef K ib S S') : ib < S.length := by rw [← h.len]; exact h.at_.lt
theorem Ef.set {c : C} (h : ib < S.length) (hc : K.ok c) : Ef K ib S (S.set ib c) :=
  ⟨⟨c, by simp [h], hc⟩, by simp, fun n hn => by rw [List.getElem?_set_ne (Ne.symm hn)]⟩
theorem Ef.app (h : Ef K ib S S') (L : Sto) : Ef K ib (S ++ L) (S' ++ L) := by
  have hl : ib < S'.length := At.lt h.at_
  obtain ⟨c, h1, h2⟩ := h.at_
  refine ⟨⟨c, by rw [List.getElem?_append_left hl]; exact h1, h2⟩, by simp [h.len], fun n hn => ?_⟩
  by_cases e : n < S'.length
  · rw [List.getElem?_append_left e, List.getElem?_append_left (by rw [← h.len]; exact e)]; exact h.same n hn
  · have e' : S'.length ≤ n := Nat.le_of_not_lt e
    rw [List.getElem?_append_right e', List.getElem?_append_right (by rw [← h.len]; exact e'), h.len]
/-- what is behind the cell's store stays -/
theorem Ef.split (hp : ib < S.length) (h : Ef K ib (S ++ L) S') : ∃ S0, S' = S0 ++ L ∧ Ef K ib S S0 := by
  refine ⟨S'.take S.length, ?_, ?_⟩
  · apply List.ext_getElem?
    intro n
    have hl := h.len
    rw [List.length_append] at hl
    by_cases e : n < S.length
    · rw [List.getElem?_append_left (by rw [List.length_take]; omega), List.getElem?_take_of_lt e]
    · have e' := Nat.le_of_not_lt e
      rw [List.getElem?_append_right (by rw [List.length_take]; omega), List.length_take, h.same n (by omega), List.getElem?_append_right e']
      congr 1; omega
  · obtain ⟨c, h1, h2⟩ := h.at_
    have hl := h.len
    rw [List.length_append] at hl
    refine ⟨⟨c, by rw [List.getElem?_take_of_lt hp]; exact h1, h2⟩, by rw [List.length_take]; omega, fun n hn => ?_⟩
    by_cases e : n < S.length
    · rw [List.getElem?_take_of_lt e, h.same n hn, List.getElem?_append_left e]
    · have e' := Nat.le_of_not_lt e
      rw [List.getElem?_eq_none (by rw [List.length_take]; omega), List.getElem?_eq_none e']
theorem Ef.shut (h : Ef K ib S S') (hd : D.cl S.length d) : Shut S d (S' ++ L) := by
  refine ⟨by rw [List.length_append, h.len]; omega, hd, fun n c' hn e => ?_⟩
  rw [List.getElem?_append_left (by rw [h.len]; exact hn)] at e
  by_cases q : n = ib
  · subst q
    obtain ⟨c, h1, h2⟩ := h.at_
    rw [h1] at e; cases e
    exact .inr (K.cl _ _ h2)
  · rw [h.same n q] at e; exact .inl e
end
theorem fin_top {fu : Nat} {b : Bool} {T : Sto} {R : XV → Sto → Prop} {Q : D → Sto → Prop} (k : Q (.bl b) []) : FinQ fu [] R Q (.ret (.bl b)) T := fin_same (d1 := .bl b) (L' := T) (by cases fu <;> (unfold frz; rfl)) ⟨Nat.zero_le _, trivial, fun _ _ h => absurd h (Nat.not_lt_zero _)⟩ k
theorem fin_grow {S S1 : Sto} {R : XV → Sto → Prop} {Q : D → Sto → Prop} {d : D} (hd : ¬ D.cl S.length d) (k : Q d S1) : FinQ 0 S R Q (.ret d) S1 := by
  show W (fin0 0 S d S1) R Q
  unfold fin0 frz
  simp only []
  rw [if_neg (fun q => hd q.2.1)]
  exact ⟨k⟩
/-! ### walks that change the cell -/
section
variable {α : Type} {env : En} {S : Sto} {Q : D → Sto → Prop} {g : GM} {ft : EM Bool} {fe : EM D} {mk : α → D} {k : Mk} {K : Kd} {ib : Nat}
end
end V

namespace V
open PySem L2 Z
open PySem.Spec PyProof.Rows
variable [Tabs]
/-! ### cells behind a store -/
section
variable {S0 L : Sto} {p j : Nat} {c : C}
theorem suf_at (h : S0.length = p) : (S0 ++ L)[p + j]? = L[j]? := by rw [List.getElem?_append_right (by omega), h]; simp
theorem suf_at0 (h : S0.length = p) : (S0 ++ L)[p]? = L[0]? := suf_at (j := 0) h
theorem suf_set (h : S0.length = p) : (S0 ++ L).set (p + j) c = S0 ++ L.set j c := by rw [List.set_append_right _ _ (by omega), h]; simp
theorem suf_set0 (h : S0.length = p) : (S0 ++ L).set p c = S0 ++ L.set 0 c := suf_set (j := 0) h
end
/-! ### tables of truths -/
def rowB (n : Nat) (f : Nat → Bool) : List D := (List.range n).map fun y => .bl (f y)
def MB (n : Nat) (r : Nat → Nat → Bool) : List (List D) := (List.range n).map fun x => rowB n (r x)
def lessD (n : Nat) (r : Nat → Nat → Bool) : D := .lst ((List.range n).map fun x => .lst (rowB n (r x)))
theorem rowB_len (n : Nat) (f : Nat → Bool) : (rowB n f).length = n := by simp [rowB]
theorem MB_len (n : Nat) (r : Nat → Nat → Bool) : (MB n r).length = n := by simp [MB]
theorem rowB_congr {n : Nat} {f g : Nat → Bool} (h : ∀ y, y < n → f y = g y) : rowB n f = rowB n g := List.map_congr_left fun y hy => by rw [h y (List.mem_range.mp hy)]
theorem MB_congr {n : Nat} {r r' : Nat → Nat → Bool} (h : ∀ x y, x < n → y < n → r x y = r' x y) : MB n r = MB n r' := List.map_congr_left fun x hx => rowB_congr fun y hy => h x y (List.mem_range.mp hx) hy
theorem MB_at {n x : Nat} {r : Nat → Nat → Bool} (h : x < n) : (MB n r)[x]? = some (rowB n (r x)) := by simp [MB, h]
theorem rowB_set {n y : Nat} {f : Nat → Bool} {v : Bool} : (rowB n f).set y (.bl v) = rowB n fun b => if b = y then v else f b := by
  unfold rowB
  rw [set_fun]
  refine List.map_congr_left fun b _ => ?_
  by_cases h : b = y <;> simp [h]
theorem MB_set {n x : Nat} {r : Nat → Nat → Bool} {g : Nat → Bool} : (MB n r).set x (rowB n g) = MB n fun a => if a = x then g else r a := by
  unfold MB
  rw [set_fun]
  refine List.map_congr_left fun b _ => ?_
  by_cases h : b = x <;> simp [h]
theorem rowB_rep (n : Nat) (v : Bool) : List.replicate n (D.bl v) = rowB n fun _ => v := by
  unfold rowB
  refine List.ext_getElem (by simp) fun i h1 h2 => by simp
theorem cl_row {k n : Nat} {f : Nat → Bool} : D.cl k (.lst (rowB n f)) := cls_map (f := fun y => D.bl (f y)) (fun _ => trivial) _
theorem cl_less {k n : Nat} {r : Nat → Nat → Bool} : D.cl k (lessD n r) := cls_map (f := fun x => D.lst (rowB n (r x))) (fun _ => cl_row) _
theorem cl_nats {k : Nat} (l : List Nat) : D.cl k (.lst (l.map dN)) := cls_map (f := dN) (fun a => clN _ _) l
section
variable {n a b : Nat} {r : Nat → Nat → Bool} {S : Sto} {R : XV → Sto → Prop} {Q : D → Sto → Prop}
theorem ix_less (ha : a < n) (k : Q (.lst (rowB n (r a))) S) : W (dIx (lessD n r) (dN a) S) R Q := ix_rngL (f := fun x => D.lst (rowB n (r x))) ha k
theorem ix_rowB {f : Nat → Bool} (hb : b < n) (k : Q (.bl (f b)) S) : W (dIx (.lst (rowB n f)) (dN b) S) R Q := ix_rngL (f := fun y => D.bl (f y)) hb k
theorem len_less (k : Q (dN n) S) : W (dLen [lessD n r] S) R Q := b_lenR k
end
/-! ### an order out of lists -/
theorem canon_take (n : Nat) (r : Nat → Nat → Bool) (i : Nat) : (List.range (i + 1)).flatMap (fun x => ((List.range n).filter fun y => r x y).map fun y => (x, y)) = (List.range i).flatMap (fun x => ((List.range n).filter fun y => r x y).map fun y => (x, y)) ++ ((List.range n).filter fun y => r i y).map fun y => (i, y) := by
  rw [List.range_succ, List.flatMap_append]
  simp
theorem canon_takeLen (n : Nat) (r : Nat → Nat → Bool) : ∀ i, ((List.range i).flatMap (fun x => ((List.range n).filter fun y => r x y).map fun y => (x, y))).length ≤ i * n
  | 0 => by simp
  | i + 1 => by
    rw [canon_take, List.length_append, Nat.succ_mul]
    have := canon_takeLen n r i
    have : (((List.range n).filter fun y => r i y).map fun y => (i, y)).length ≤ n := by
      rw [List.length_map]
      exact Nat.le_trans (List.length_filter_le _ _) (by simp)
    omega
end V

namespace V
open PySem L2 Z
open PySem.Spec PyProof.Rows
variable [Tabs]
section
variable {S : Sto} {R : XV → Sto → Prop} {Q : D → Sto → Prop} {i : Int} {x : Str} {b : Bool} {xs : List D}
theorem o_isNI (k : Q (.bl false) S) : W (dIsN (.int i) .non S) R Q := ⟨k⟩
theorem o_isNS (k : Q (.bl false) S) : W (dIsN (.str x) .non S) R Q := ⟨k⟩
theorem o_isNB (k : Q (.bl false) S) : W (dIsN (.bl b) .non S) R Q := ⟨k⟩
theorem o_isNL (k : Q (.bl false) S) : W (dIsN (.lst xs) .non S) R Q := ⟨k⟩
theorem o_isNotI (k : Q (.bl true) S) : W (dIsNot (.int i) .non S) R Q := ⟨k⟩
theorem o_isNotS (k : Q (.bl true) S) : W (dIsNot (.str x) .non S) R Q := ⟨k⟩
theorem o_isNotB (k : Q (.bl true) S) : W (dIsNot (.bl b) .non S) R Q := ⟨k⟩
end
end V

namespace V
open PySem L2 Z
open PySem.Spec PyProof.Rows
variable [Tabs]
section
variable {S : Sto} {R : XV → Sto → Prop} {Q : D → Sto → Prop} {i : Nat} {xs ys : List D}
theorem eqvA_N : ∀ l l' : List Nat, PyData.eqvAll (l.map nP) (l'.map nP) = decide (l = l')
  | [], [] => rfl
  | [], q :: l' => rfl
  | p :: l, [] => rfl
  | p :: l, q :: l' => by
    have e : PyData.eqv (nP p) (nP q) = decide (p = q) := by
      rw [Bool.eq_iff_iff]
      simp [nP, PyData.eqv]
      omega
    rw [List.map_cons, List.map_cons, PyData.eqvAll, e, eqvA_N l l', Bool.eq_iff_iff]
    simp
theorem sh_Nt (l : List Nat) : SeqAt.shaped (.tuple (l.map nP)) = true := by
  have h : ∀ l : List Nat, PyData.canLayAll0 (l.map nP) = true ∧ PyData.depthAll (l.map nP) ≤ 2 := by
    intro l
    induction l with
    | nil => simp [PyData.canLayAll0, PyData.depthAll]
    | cons p l ih =>
      rw [List.map_cons]
      unfold PyData.canLayAll0 PyData.depthAll
      simp only [nP, PyData.canLay0, PyData.depth]
      exact ⟨by rw [ih.1]; rfl, Nat.max_le.mpr ⟨by omega, ih.2⟩⟩
  have h2 := (h l).2
  unfold SeqAt.shaped
  simp only [PyData.canLay0, PyData.depth, (h l).1, Bool.true_and]
  exact (decide_eq_true (by omega))
end
end V

namespace V
open PySem L2 Z
open PySem.Spec PyProof.Rows
variable [Tabs]
/-! ### many steps at once -/
class Ev (G : Prop) (H : outParam Prop) : Prop where
  imp : H → G
class Rn (G : Prop) (H : outParam Prop) : Prop where
  imp : H → G
class E1 (G : Prop) (H : outParam Prop) : Prop where
  imp : H → G
instance (priority := low) rn_stop {G : Prop} : Rn G G := ⟨id⟩
instance rn_step {G G1 H : Prop} [a : Ev G G1] [b : Rn G1 H] : Rn G H := ⟨fun h => a.imp (b.imp h)⟩
instance e1_of {G G1 H : Prop} [a : Ev G G1] [b : Rn G1 H] : E1 G H := ⟨fun h => a.imp (b.imp h)⟩
section
variable {α β : Type} {env : En} {S S' S1 : Sto} {a b c : EM D} {r : EM (List D)} {t u : EM Bool} {d d1 d2 x y : D} {ds xs ys : List D} {k n m i : Nat} {R R0 : XV → Sto → Prop} {Q Q0 : D → Sto → Prop} {QL : List D → Sto → Prop} {QB : Bool → Sto → Prop} {QF : Fl → Sto → Prop} {P P1 P2 : Prop} {s : SM}
instance (priority := 4930) ev_w_c : Ev (W (zC d env S) R Q) (Q d S) := ⟨w_c⟩
instance (priority := 4940) ev_w_cN : Ev (W (zC (.int (@OfNat.ofNat Int n (@instOfNat n))) env S) R Q) (Q (dN (@OfNat.ofNat Nat n (instOfNatNat n))) S) := ⟨w_cN⟩
instance (priority := 4950) ev_w_op {o : D → D → Sto → Rs D} : Ev (W (zOp o a b env S) R Q) (W (a env S) R fun x S1 => W (b env S1) R fun y S2 => W (o x y S2) R Q) := ⟨w_op⟩
instance (priority := 4440) ev_w_un {o : D → Sto → Rs D} : Ev (W (zUn o a env S) R Q) (W (a env S) R fun x S1 => W (o x S1) R Q) := ⟨w_un⟩
instance (priority := 4910) ev_w_nil : Ev (W (zNil env S) R QL) (QL [] S) := ⟨w_nil⟩
instance (priority := 4920) ev_w_cons : Ev (W (zCons a r env S) R QL) (W (a env S) R fun x S1 => W (r env S1) R fun xs S2 => QL (x :: xs) S2) := ⟨w_cons⟩
instance (priority := 4890) ev_w_call {o : List D → Sto → Rs D} : Ev (W (zCall o r env S) R Q) (W (r env S) R fun ds S1 => W (o ds S1) R Q) := ⟨w_call⟩
instance (priority := 4900) ev_w_callF {F : List D → Sto → Rs D} : Ev (W (zCallF n F r env S) R Q) (W (r env S) R fun ds S1 => LenQ n ds (W (F ds S1) R Q)) := ⟨w_callF⟩
instance (priority := 4430) ev_w_callK {F : List D → Sto → Rs D} {pm : List Nat} {r' : EM (List D)} : Ev (W (zCallK n F pm r r' env S) R Q) (W (r env S) R fun ds S1 => W (r' env S1) R fun es S2 => LenQ n (permL pm (ds ++ es)) (W (F (permL pm (ds ++ es)) S2) R Q)) := ⟨w_callK⟩
instance (priority := 4640) ev_w_tup : Ev (W (zTup r env S) R Q) (W (r env S) R fun ds S1 => LenB ds (Q (.tup ds) S1)) := ⟨w_tup⟩
instance (priority := 4630) ev_w_lst : Ev (W (zLst r env S) R Q) (W (r env S) R fun ds S1 => LenB ds (Q (.lst ds) S1)) := ⟨w_lst⟩
instance (priority := 4620) ev_w_lstC : Ev (W (zLstC r env S) R Q) (W (r env S) R fun ds S1 => LenB ds (Q (.ptr S1.length) (S1 ++ [.lst ds]))) := ⟨w_lstC⟩
instance (priority := 4610) ev_w_if : Ev (W (zIf t a b env S) R Q) (W (t env S) R fun v S1 => Br v (W (a env S1) R Q) (W (b env S1) R Q)) := ⟨w_if⟩
instance (priority := 4600) ev_w_tru : Ev (W (zTru a env S) R QB) (W (a env S) R fun x S1 => TruQ S1 x fun v => QB v S1) := ⟨w_tru⟩
instance (priority := 4590) ev_w_b : Ev (W (zB a env S) R QB) (W (a env S) R fun x S1 => BoolQ x fun v => QB v S1) := ⟨w_b⟩
instance (priority := 4580) ev_w_yes : Ev (W (zYes env S) R QB) (QB true S) := ⟨w_yes⟩
instance (priority := 4570) ev_w_not : Ev (W (zNot t env S) R QB) (W (t env S) R fun v S1 => QB (!v) S1) := ⟨w_not⟩
instance (priority := 4560) ev_w_and : Ev (W (zAnd t u env S) R QB) (W (t env S) R fun v S1 => Br v (W (u env S1) R QB) (QB false S1)) := ⟨w_and⟩
instance (priority := 4550) ev_w_or : Ev (W (zOr t u env S) R QB) (W (t env S) R fun v S1 => Br v (QB true S1) (W (u env S1) R QB)) := ⟨w_or⟩
instance (priority := 4540) ev_w_andV : Ev (W (zAndV a b env S) R Q) (W (a env S) R fun x S1 => BoolQ x fun v => Br v (W (b env S1) R Q) (Q (.bl false) S1)) := ⟨w_andV⟩
instance (priority := 4530) ev_w_orV : Ev (W (zOrV a b env S) R Q) (W (a env S) R fun x S1 => BoolQ x fun v => Br v (Q (.bl true) S1) (W (b env S1) R Q)) := ⟨w_orV⟩
instance (priority := 4520) ev_w_notV : Ev (W (zNotV a env S) R Q) (W (a env S) R fun x S1 => BoolQ x fun v => Q (.bl (!v)) S1) := ⟨w_notV⟩
instance (priority := 4510) ev_w_chain {o o' : D → D → Sto → Rs D} : Ev (W (zChain o o' a b c env S) R Q) (W (a env S) R fun x S1 => W (b env S1) R fun y S2 => W (o x y S2) R fun z S3 => BoolQ z fun v => Br v (W (c env S3) R fun w S4 => W (o' y w S4) R Q) (Q (.bl false) S3)) := ⟨w_chain⟩
instance (priority := 4500) ev_w_sl {lo hi : EO} : Ev (W (zSl a lo hi env S) R Q) (W (a env S) R fun x S1 => W (lo env S1) R fun l S2 => W (hi env S2) R fun h S3 => W (dSl x l h S3) R Q) := ⟨w_sl⟩
instance (priority := 4490) ev_w_noPart {Q : Option Int → Sto → Prop} : Ev (W (zNoPart env S) R Q) (Q none S) := ⟨w_noPart⟩
instance (priority := 4480) ev_w_part {Q : Option Int → Sto → Prop} : Ev (W (zPart a env S) R Q) (W (a env S) R fun x S1 => IntQ x fun i => Q (some i) S1) := ⟨w_part⟩
instance (priority := 4450) ev_w_back : Ev (W (zBack a env S) R Q) (W (a env S) R fun x S1 => ∃ ds, seqOf x S1 = some ds ∧ Q (.lst ds.reverse) S1) := ⟨w_back⟩
instance (priority := 4470) ev_w_meth {o : D → List D → Sto → Rs D} : Ev (W (zMeth o a r env S) R Q) (W (a env S) R fun x S1 => W (r env S1) R fun ys S2 => W (o x ys S2) R Q) := ⟨w_meth⟩
instance (priority := 4460) ev_w_methL {o : D → List D → Sto → Rs D} : Ev (W (zMethL o a r env S) R Q) (W (a env S) R fun x S1 => isPtrL x S1 = true ∧ W (r env S1) R fun ys S2 => W (o x ys S2) R Q) := ⟨w_methL⟩
instance (priority := 3130) ev_w_isi {ns : List String} : Ev (W (zIsi ns a env S) R Q) (W (a env S) R fun x S1 => IsiQ ns x S1 fun v => Q (.bl v) S1) := ⟨w_isi⟩
instance (priority := 4420) ev_w_src {Q : Src → Sto → Prop} : Ev (W (zSrc a env S) R Q) (W (a env S) R fun x S1 => ∃ s, srcOf x S1 = some s ∧ Q s S1) := ⟨w_src⟩
instance (priority := 4410) ev_w_range1 {Q : Src → Sto → Prop} : Ev (W (zRange1 r env S) R Q) (W (r env S) R fun ds S1 => Rng1 ds fun s => Q s S1) := ⟨w_range1⟩
instance (priority := 4400) ev_w_range2 {Q : Src → Sto → Prop} : Ev (W (zRange2 r env S) R Q) (W (r env S) R fun ds S1 => Rng2 ds fun s => Q s S1) := ⟨w_range2⟩
instance (priority := 4390) ev_src_tup {K : Src → Prop} : Ev (∃ s, srcOf (.tup xs) S = some s ∧ K s) (K ⟨xs, none⟩) := ⟨src_tup⟩
instance (priority := 4380) ev_src_lst {K : Src → Prop} : Ev (∃ s, srcOf (.lst xs) S = some s ∧ K s) (K ⟨xs, none⟩) := ⟨src_lst⟩
instance (priority := 4240) ev_x_seq {a b : SM} : Ev (X (zSeq a b env S) QF) (X (a env S) (Sq b QF)) := ⟨x_seq⟩
instance (priority := 4290) ev_sq_next : Ev (Sq s QF (.next env) S) (X (s env S) QF) := ⟨sq_next⟩
instance (priority := 4280) ev_sq_ret : Ev (Sq s QF (.ret d) S) (QF (.ret d) S) := ⟨sq_ret⟩
instance (priority := 4270) ev_sq_exc {e : XV} : Ev (Sq s QF (.exc e env) S) (QF (.exc e env) S) := ⟨sq_exc⟩
instance (priority := 4260) ev_sq_brk : Ev (Sq s QF (.brk env) S) (QF (.brk env) S) := ⟨sq_brk⟩
instance (priority := 4250) ev_sq_cnt : Ev (Sq s QF (.cnt env) S) (QF (.cnt env) S) := ⟨sq_cnt⟩
instance (priority := 4230) ev_x_next : Ev (X (zNext env S) QF) (QF (.next env) S) := ⟨x_next⟩
instance (priority := 4120) ev_x_brk : Ev (X (zBrk env S) QF) (QF (.brk env) S) := ⟨x_brk⟩
instance (priority := 4110) ev_x_cnt : Ev (X (zCnt env S) QF) (QF (.cnt env) S) := ⟨x_cnt⟩
instance (priority := 4220) ev_x_ret : Ev (X (zRet a env S) QF) (W (a env S) (fun e S => QF (.exc e env) S) fun d S1 => QF (.ret d) S1) := ⟨x_ret⟩
instance (priority := 4210) ev_x_retN : Ev (X (zRetN env S) QF) (QF (.ret .non) S) := ⟨x_retN⟩
instance (priority := 4200) ev_x_expr : Ev (X (zExpr a env S) QF) (W (a env S) (fun e S => QF (.exc e env) S) fun d S1 => QF (.next env) S1) := ⟨x_expr⟩
instance (priority := 4190) ev_x_if {s1 s2 : SM} : Ev (X (zIfS t s1 s2 env S) QF) (W (t env S) (fun e S => QF (.exc e env) S) fun v S1 => Br v (X (s1 env S1) QF) (X (s2 env S1) QF)) := ⟨x_if⟩
instance (priority := 4160) ev_x_asg {g : GM} : Ev (X (zAsg a g env S) QF) (W (a env S) (fun e S => QF (.exc e env) S) fun d S1 => G (g d env) fun e => QF (.next e) S1) := ⟨x_asg⟩
instance (priority := 4150) ev_x_put : Ev (X (zPut a b c env S) QF) (W (c env S) (fun e S => QF (.exc e env) S) fun v S1 => W (a env S1) (fun e S => QF (.exc e env) S) fun x S2 => W (b env S2) (fun e S => QF (.exc e env) S) fun y S3 => PutQ (stSet x y v S3) fun S4 => QF (.next env) S4) := ⟨x_put⟩
instance (priority := 4140) ev_x_putD : Ev (X (zPutD a b c env S) QF) (W (c env S) (fun e S => QF (.exc e env) S) fun v S1 => W (a env S1) (fun e S => QF (.exc e env) S) fun x S2 => W (b env S2) (fun e S => QF (.exc e env) S) fun y S3 => PutQ (dPutS x y v S3) fun S4 => QF (.next env) S4) := ⟨x_putD⟩
instance (priority := 4100) ev_x_raise1 {nm f : Str} : Ev (X (zRaise1 nm f a env S) QF) (W (a env S) (fun e S => QF (.exc e env) S) fun d S1 => QF (.exc ⟨nm, some [(f, d)]⟩ env) S1) := ⟨x_raise1⟩
instance (priority := 4090) ev_x_raise0 {nm : Str} : Ev (X (zRaise0 nm env S) QF) (QF (.exc ⟨nm, none⟩ env) S) := ⟨x_raise0⟩
instance (priority := 4080) ev_x_try {cat : List (Str × Bool)} {fb : SM} {fh : XV → SM} : Ev (X (zTryAs i cat fb fh env S) QF) (X (fb env S) (TryQ i cat fh QF)) := ⟨x_try⟩
instance (priority := 3120) ev_tryq_ret {cat : List (Str × Bool)} {fh : XV → SM} : Ev (TryQ i cat fh QF (.ret d) S) (QF (.ret d) S) := ⟨tryq_ret⟩
instance (priority := 3110) ev_tryq_next {cat : List (Str × Bool)} {fh : XV → SM} : Ev (TryQ i cat fh QF (.next env) S) (QF (.next env) S) := ⟨tryq_next⟩
instance (priority := 3100) ev_unq_ret : Ev (UnQ i QF (.ret d) S) (QF (.ret d) S) := ⟨unq_ret⟩
instance (priority := 3090) ev_unq_next : Ev (UnQ i QF (.next env) S) (QF (.next (env.set i none)) S) := ⟨unq_next⟩
instance (priority := 4320) ev_br_t : Ev (Br true P1 P2) (P1) := ⟨br_t⟩
instance (priority := 4310) ev_br_f : Ev (Br false P1 P2) (P2) := ⟨br_f⟩
instance (priority := 4300) ev_br_n {v : Bool} : Ev (Br (!v) P1 P2) (Br v P2 P1) := ⟨br_n⟩
instance (priority := 4370) ev_bq {v : Bool} {K : Bool → Prop} : Ev (BoolQ (.bl v) K) (K v) := ⟨bq⟩
instance (priority := 4360) ev_iq {v : Int} {K : Int → Prop} : Ev (IntQ (.int v) K) (K v) := ⟨iq⟩
instance (priority := 4350) ev_iqN {K : Int → Prop} : Ev (IntQ (dN n) K) (K (n : Int)) := ⟨iqN⟩
instance (priority := 4340) ev_tq_b {v : Bool} {K : Bool → Prop} : Ev (TruQ S (.bl v) K) (K v) := ⟨tq_b⟩
instance (priority := 4330) ev_tq_N {K : Bool → Prop} : Ev (TruQ S (dN n) K) (K (decide (n ≠ 0))) := ⟨tq_N⟩
instance (priority := 3970) ev_o_addN : Ev (W (dAdd (dN n) (dN m) S) R Q) (Q (dN (n + m)) S) := ⟨o_addN⟩
instance (priority := 3960) ev_o_addI {i j : Int} : Ev (W (dAdd (.int i) (.int j) S) R Q) (Q (.int (i + j)) S) := ⟨o_addI⟩
instance (priority := 3530) ev_o_subI {i j : Int} : Ev (W (dSub (.int i) (.int j) S) R Q) (Q (.int (i - j)) S) := ⟨o_subI⟩
instance (priority := 3930) ev_o_ltN : Ev (W (dLt (dN n) (dN m) S) R Q) (Q (.bl (decide (n < m))) S) := ⟨o_ltN⟩
instance (priority := 3920) ev_o_leN : Ev (W (dLe (dN n) (dN m) S) R Q) (Q (.bl (decide (n ≤ m))) S) := ⟨o_leN⟩
instance (priority := 3910) ev_o_gtN : Ev (W (dGt (dN n) (dN m) S) R Q) (Q (.bl (decide (m < n))) S) := ⟨o_gtN⟩
instance (priority := 3900) ev_o_geN : Ev (W (dGe (dN n) (dN m) S) R Q) (Q (.bl (decide (m ≤ n))) S) := ⟨o_geN⟩
instance (priority := 3950) ev_o_eqN : Ev (W (dEq (dN n) (dN m) S) R Q) (Q (.bl (decide (n = m))) S) := ⟨o_eqN⟩
instance (priority := 3890) ev_o_neN : Ev (W (dNe (dN n) (dN m) S) R Q) (Q (.bl (!decide (n = m))) S) := ⟨o_neN⟩
instance (priority := 3940) ev_o_eqI {i j : Int} : Ev (W (dEq (.int i) (.int j) S) R Q) (Q (.bl (decide (i = j))) S) := ⟨o_eqI⟩
instance (priority := 3880) ev_o_neI {i j : Int} : Ev (W (dNe (.int i) (.int j) S) R Q) (Q (.bl (!decide (i = j))) S) := ⟨o_neI⟩
instance (priority := 3870) ev_o_eqB {v w : Bool} : Ev (W (dEq (.bl v) (.bl w) S) R Q) (Q (.bl (decide (v = w))) S) := ⟨o_eqB⟩
instance (priority := 3860) ev_o_neB {v w : Bool} : Ev (W (dNe (.bl v) (.bl w) S) R Q) (Q (.bl (!decide (v = w))) S) := ⟨o_neB⟩
instance (priority := 3850) ev_o_eqS {v w : Str} : Ev (W (dEq (.str v) (.str w) S) R Q) (Q (.bl (decide (v = w))) S) := ⟨o_eqS⟩
instance (priority := 3810) ev_o_ltI {i j : Int} : Ev (W (dLt (.int i) (.int j) S) R Q) (Q (.bl (decide (i < j))) S) := ⟨o_ltI⟩
instance (priority := 3800) ev_o_leI {i j : Int} : Ev (W (dLe (.int i) (.int j) S) R Q) (Q (.bl (decide (i ≤ j))) S) := ⟨o_leI⟩
instance (priority := 3790) ev_o_gtI {i j : Int} : Ev (W (dGt (.int i) (.int j) S) R Q) (Q (.bl (decide (j < i))) S) := ⟨o_gtI⟩
instance (priority := 3780) ev_o_geI {i j : Int} : Ev (W (dGe (.int i) (.int j) S) R Q) (Q (.bl (decide (j ≤ i))) S) := ⟨o_geI⟩
instance (priority := 3840) ev_o_andN : Ev (W (dAnd (dN n) (dN m) S) R Q) (Q (dN (n &&& m)) S) := ⟨o_andN⟩
instance (priority := 3830) ev_o_orN : Ev (W (dOr (dN n) (dN m) S) R Q) (Q (dN (n ||| m)) S) := ⟨o_orN⟩
instance (priority := 3820) ev_o_shrN : Ev (W (dShr (dN n) (dN m) S) R Q) (Q (dN (n >>> m)) S) := ⟨o_shrN⟩
instance (priority := 3770) ev_o_isNt : Ev (W (dIsN .non .non S) R Q) (Q (.bl true) S) := ⟨o_isNt⟩
instance (priority := 3760) ev_o_isNn : Ev (W (dIsN (dN n) .non S) R Q) (Q (.bl false) S) := ⟨o_isNn⟩
instance (priority := 3750) ev_o_isNT : Ev (W (dIsN (.tup xs) .non S) R Q) (Q (.bl false) S) := ⟨o_isNT⟩
instance (priority := 3740) ev_o_isNott : Ev (W (dIsNot .non .non S) R Q) (Q (.bl false) S) := ⟨o_isNott⟩
instance (priority := 3730) ev_o_isNotn : Ev (W (dIsNot (dN n) .non S) R Q) (Q (.bl true) S) := ⟨o_isNotn⟩
instance (priority := 3720) ev_o_isNotT : Ev (W (dIsNot (.tup xs) .non S) R Q) (Q (.bl true) S) := ⟨o_isNotT⟩
instance (priority := 3710) ev_o_isNotL : Ev (W (dIsNot (.lst xs) .non S) R Q) (Q (.bl true) S) := ⟨o_isNotL⟩
instance (priority := 3520) ev_o_neg {i : Int} : Ev (W (dNeg (.int i) S) R Q) (Q (.int (-i)) S) := ⟨o_neg⟩
instance (priority := 3510) ev_o_negN : Ev (W (dNeg (dN n) S) R Q) (Q (.int (-(n : Int))) S) := ⟨o_negN⟩
instance (priority := 3700) ev_o_addIN {i : Int} : Ev (W (dAdd (.int i) (dN n) S) R Q) (Q (.int (i + (n : Int))) S) := ⟨o_addIN⟩
instance (priority := 3690) ev_o_addNI {i : Int} : Ev (W (dAdd (dN n) (.int i) S) R Q) (Q (.int ((n : Int) + i)) S) := ⟨o_addNI⟩
instance (priority := 3680) ev_o_subIN {i : Int} : Ev (W (dSub (.int i) (dN n) S) R Q) (Q (.int (i - (n : Int))) S) := ⟨o_subIN⟩
instance (priority := 3670) ev_o_subNI {i : Int} : Ev (W (dSub (dN n) (.int i) S) R Q) (Q (.int ((n : Int) - i)) S) := ⟨o_subNI⟩
instance (priority := 3660) ev_o_eqIN {i : Int} : Ev (W (dEq (.int i) (dN n) S) R Q) (Q (.bl (decide (i = (n : Int)))) S) := ⟨o_eqIN⟩
instance (priority := 3650) ev_o_eqNI {i : Int} : Ev (W (dEq (dN n) (.int i) S) R Q) (Q (.bl (decide ((n : Int) = i))) S) := ⟨o_eqNI⟩
instance (priority := 3640) ev_o_neIN {i : Int} : Ev (W (dNe (.int i) (dN n) S) R Q) (Q (.bl (!decide (i = (n : Int)))) S) := ⟨o_neIN⟩
instance (priority := 3630) ev_o_neNI {i : Int} : Ev (W (dNe (dN n) (.int i) S) R Q) (Q (.bl (!decide ((n : Int) = i))) S) := ⟨o_neNI⟩
instance (priority := 3620) ev_o_ltIN {i : Int} : Ev (W (dLt (.int i) (dN n) S) R Q) (Q (.bl (decide (i < (n : Int)))) S) := ⟨o_ltIN⟩
instance (priority := 3610) ev_o_ltNI {i : Int} : Ev (W (dLt (dN n) (.int i) S) R Q) (Q (.bl (decide ((n : Int) < i))) S) := ⟨o_ltNI⟩
instance (priority := 3600) ev_o_leIN {i : Int} : Ev (W (dLe (.int i) (dN n) S) R Q) (Q (.bl (decide (i ≤ (n : Int)))) S) := ⟨o_leIN⟩
instance (priority := 3590) ev_o_leNI {i : Int} : Ev (W (dLe (dN n) (.int i) S) R Q) (Q (.bl (decide ((n : Int) ≤ i))) S) := ⟨o_leNI⟩
instance (priority := 3580) ev_o_gtIN {i : Int} : Ev (W (dGt (.int i) (dN n) S) R Q) (Q (.bl (decide ((n : Int) < i))) S) := ⟨o_gtIN⟩
instance (priority := 3570) ev_o_gtNI {i : Int} : Ev (W (dGt (dN n) (.int i) S) R Q) (Q (.bl (decide (i < (n : Int)))) S) := ⟨o_gtNI⟩
instance (priority := 3560) ev_o_geIN {i : Int} : Ev (W (dGe (.int i) (dN n) S) R Q) (Q (.bl (decide ((n : Int) ≤ i))) S) := ⟨o_geIN⟩
instance (priority := 3550) ev_o_geNI {i : Int} : Ev (W (dGe (dN n) (.int i) S) R Q) (Q (.bl (decide (i ≤ (n : Int)))) S) := ⟨o_geNI⟩
instance (priority := 3540) ev_b_abs {i : Int} : Ev (W (dAbs [.int i] S) R Q) (Q (dN i.natAbs) S) := ⟨b_abs⟩
instance (priority := 3380) ev_ix_o0 {L : List (Nat × Nat)} : Ev (W (dIx (ordD n L) (dN 0) S) R Q) (Q (dN n) S) := ⟨ix_o0⟩
instance (priority := 3370) ev_ix_o1 {L : List (Nat × Nat)} : Ev (W (dIx (ordD n L) (dN 1) S) R Q) (Q (.tup (L.map pD)) S) := ⟨ix_o1⟩
instance (priority := 3360) ev_ix_p0 {p : Nat × Nat} : Ev (W (dIx (pD p) (dN 0) S) R Q) (Q (dN p.1) S) := ⟨ix_p0⟩
instance (priority := 3350) ev_ix_p1 {p : Nat × Nat} : Ev (W (dIx (pD p) (dN 1) S) R Q) (Q (dN p.2) S) := ⟨ix_p1⟩
instance (priority := 3500) ev_ix_tup0 {e0 : D} : Ev (W (dIx (.tup (e0 :: xs)) (dN 0) S) R Q) (Q e0 S) := ⟨ix_tup0⟩
instance (priority := 3490) ev_ix_tup1 {e0 e1 : D} : Ev (W (dIx (.tup (e0 :: e1 :: xs)) (dN 1) S) R Q) (Q e1 S) := ⟨ix_tup1⟩
instance (priority := 3480) ev_ix_tup2 {e0 e1 e2 : D} : Ev (W (dIx (.tup (e0 :: e1 :: e2 :: xs)) (dN 2) S) R Q) (Q e2 S) := ⟨ix_tup2⟩
instance (priority := 3470) ev_ix_tup3 {e0 e1 e2 e3 : D} : Ev (W (dIx (.tup (e0 :: e1 :: e2 :: e3 :: xs)) (dN 3) S) R Q) (Q e3 S) := ⟨ix_tup3⟩
instance (priority := 3460) ev_ix_tup4 {e0 e1 e2 e3 e4 : D} : Ev (W (dIx (.tup (e0 :: e1 :: e2 :: e3 :: e4 :: xs)) (dN 4) S) R Q) (Q e4 S) := ⟨ix_tup4⟩
instance (priority := 3450) ev_ix_tup5 {e0 e1 e2 e3 e4 e5 : D} : Ev (W (dIx (.tup (e0 :: e1 :: e2 :: e3 :: e4 :: e5 :: xs)) (dN 5) S) R Q) (Q e5 S) := ⟨ix_tup5⟩
instance (priority := 3440) ev_ix_lst0 {e0 : D} : Ev (W (dIx (.lst (e0 :: xs)) (dN 0) S) R Q) (Q e0 S) := ⟨ix_lst0⟩
instance (priority := 3430) ev_ix_lst1 {e0 e1 : D} : Ev (W (dIx (.lst (e0 :: e1 :: xs)) (dN 1) S) R Q) (Q e1 S) := ⟨ix_lst1⟩
instance (priority := 3420) ev_ix_lst2 {e0 e1 e2 : D} : Ev (W (dIx (.lst (e0 :: e1 :: e2 :: xs)) (dN 2) S) R Q) (Q e2 S) := ⟨ix_lst2⟩
instance (priority := 3410) ev_ix_lst3 {e0 e1 e2 e3 : D} : Ev (W (dIx (.lst (e0 :: e1 :: e2 :: e3 :: xs)) (dN 3) S) R Q) (Q e3 S) := ⟨ix_lst3⟩
instance (priority := 3400) ev_ix_lst4 {e0 e1 e2 e3 e4 : D} : Ev (W (dIx (.lst (e0 :: e1 :: e2 :: e3 :: e4 :: xs)) (dN 4) S) R Q) (Q e4 S) := ⟨ix_lst4⟩
instance (priority := 3390) ev_ix_lst5 {e0 e1 e2 e3 e4 e5 : D} : Ev (W (dIx (.lst (e0 :: e1 :: e2 :: e3 :: e4 :: e5 :: xs)) (dN 5) S) R Q) (Q e5 S) := ⟨ix_lst5⟩
instance (priority := 3340) ev_b_lenR {f : Nat → D} : Ev (W (dLen [.lst ((List.range n).map f)] S) R Q) (Q (dN n) S) := ⟨b_lenR⟩
instance (priority := 3330) ev_b_lenTb {f : Nat → Nat} : Ev (W (dLen [.lst (tab n f)] S) R Q) (Q (dN n) S) := ⟨b_lenTb⟩
instance (priority := 3320) ev_b_lenM {f : α → D} {L : List α} : Ev (W (dLen [.lst (L.map f)] S) R Q) (Q (dN L.length) S) := ⟨b_lenM⟩
instance (priority := 3310) ev_b_lenMT {f : α → D} {L : List α} : Ev (W (dLen [.tup (L.map f)] S) R Q) (Q (dN L.length) S) := ⟨b_lenMT⟩
instance (priority := 3300) ev_b_lenL : Ev (W (dLen [.lst xs] S) R Q) (Q (dN xs.length) S) := ⟨b_lenL⟩
instance (priority := 3290) ev_b_lenT : Ev (W (dLen [.tup xs] S) R Q) (Q (dN xs.length) S) := ⟨b_lenT⟩
instance (priority := 3280) ev_b_tupL : Ev (W (dTuple [.lst xs] S) R Q) (Q (.tup xs) S) := ⟨b_tupL⟩
instance (priority := 3270) ev_b_tupT : Ev (W (dTuple [.tup xs] S) R Q) (Q (.tup xs) S) := ⟨b_tupT⟩
instance (priority := 3260) ev_b_intB {v : Bool} : Ev (W (dInt [.bl v] S) R Q) (Q (dN v.toNat) S) := ⟨b_intB⟩
instance (priority := 3250) ev_b_intN : Ev (W (dInt [dN n] S) R Q) (Q (dN n) S) := ⟨b_intN⟩
instance (priority := 3240) ev_b_intI {i : Int} : Ev (W (dInt [.int i] S) R Q) (Q (.int i) S) := ⟨b_intI⟩
instance (priority := 3230) ev_b_boolB {v : Bool} : Ev (W (dBool [.bl v] S) R Q) (Q (.bl v) S) := ⟨b_boolB⟩
instance (priority := 3220) ev_b_min : Ev (W (dMin2 [dN n, dN m] S) R Q) (Q (dN (min n m)) S) := ⟨b_min⟩
instance (priority := 3210) ev_b_max : Ev (W (dMax2 [dN n, dN m] S) R Q) (Q (dN (max n m)) S) := ⟨b_max⟩
instance (priority := 3200) ev_sl_T {lo hi : Option Int} : Ev (W (dSl (.tup xs) lo hi S) R Q) (Q (.tup (cutD xs lo hi)) S) := ⟨sl_T⟩
instance (priority := 3190) ev_sl_L {lo hi : Option Int} : Ev (W (dSl (.lst xs) lo hi S) R Q) (Q (.lst (cutD xs lo hi)) S) := ⟨sl_L⟩
instance (priority := 3180) ev_g_tup {n : Nat} {gs : List D → En → Option En} {K : En → Prop} : Ev (G (zgTup n gs (.tup ds) env) K) (LenQ n ds (G (gs ds env) K)) := ⟨g_tup⟩
instance (priority := 3170) ev_g_unl {n : Nat} {gs : List D → En → Option En} {K : En → Prop} : Ev (G (zgUnl n gs (.lst ds) env) K) (LenQ n ds (G (gs ds env) K)) := ⟨g_unl⟩
instance (priority := 3160) ev_g_pD {gs : List D → En → Option En} {p : Nat × Nat} {K : En → Prop} : Ev (G (zgTup 2 gs (pD p) env) K) (G (gs [dN p.1, dN p.2] env) K) := ⟨g_pD⟩
instance (priority := 3150) ev_g_cons {g : GM} {gs : List D → En → Option En} {K : En → Prop} : Ev (G (zgCons g gs (d :: ds) env) K) (G (g d env) fun e => G (gs ds e) K) := ⟨g_cons⟩
instance (priority := 3140) ev_g_nil {K : En → Prop} : Ev (G (zgNil [] env) K) (K env) := ⟨g_nil⟩
instance (priority := 5000) ev_vq_0 {tl : En} {K : D → Prop} : Ev (VarQ 0 (some d :: tl) K) (K d) := ⟨vq_0⟩
instance (priority := 4990) ev_vq_s {e : Option D} {tl : En} {K : D → Prop} : Ev (VarQ (i + 1) (e :: tl) K) (VarQ i tl K) := ⟨vq_s⟩
instance (priority := 4970) ev_zq_0 {e : Option D} {tl : En} {K : En → Prop} : Ev (SetQ 0 (e :: tl) d K) (K (some d :: tl)) := ⟨zq_0⟩
instance (priority := 4960) ev_zq_s {e : Option D} {tl : En} {K : En → Prop} : Ev (SetQ (i + 1) (e :: tl) d K) (SetQ i tl d fun t => K (e :: t)) := ⟨zq_s⟩
instance (priority := 4980) ev_w_vq : Ev (W (zVar i env S) R Q) (VarQ i env fun d => Q d S) := ⟨w_vq⟩
instance (priority := 4180) ev_x_sq : Ev (X (zSet i a env S) QF) (W (a env S) (fun e S => QF (.exc e env) S) fun d S1 => SetQ i env d fun env' => QF (.next env') S1) := ⟨x_sq⟩
instance (priority := 4170) ev_g_zq {K : En → Prop} : Ev (G (zgName i d env) K) (SetQ i env d K) := ⟨g_zq⟩
instance (priority := 3980) ev_x_aq {o : D → D → Sto → Rs D} : Ev (X (zAug i o a env S) QF) (VarQ i env fun d => W (a env S) (fun e S => QF (.exc e env) S) fun y S1 => W (o d y S1) (fun e S => QF (.exc e env) S) fun w S2 => SetQ i env w fun env' => QF (.next env') S2) := ⟨x_aq⟩
instance (priority := 2940) ev_iq_tuple_tup {S : Sto} {xs : List D} {K : Bool → Prop} : Ev (IsiQ ["tuple"] (.tup xs) S K) (K true) := ⟨iq_tuple_tup⟩
instance (priority := 2930) ev_iq_tuple_lst {S : Sto} {xs : List D} {K : Bool → Prop} : Ev (IsiQ ["tuple"] (.lst xs) S K) (K false) := ⟨iq_tuple_lst⟩
instance (priority := 2920) ev_iq_tuple_N {S : Sto} {n : Nat} {K : Bool → Prop} : Ev (IsiQ ["tuple"] (dN n) S K) (K false) := ⟨iq_tuple_N⟩
instance (priority := 2910) ev_iq_tuple_I {S : Sto} {j : Int} {K : Bool → Prop} : Ev (IsiQ ["tuple"] (.int j) S K) (K false) := ⟨iq_tuple_I⟩
instance (priority := 2900) ev_iq_tuple_str {S : Sto} {z : Str} {K : Bool → Prop} : Ev (IsiQ ["tuple"] (.str z) S K) (K false) := ⟨iq_tuple_str⟩
instance (priority := 2890) ev_iq_tuple_bl {S : Sto} {w : Bool} {K : Bool → Prop} : Ev (IsiQ ["tuple"] (.bl w) S K) (K false) := ⟨iq_tuple_bl⟩
instance (priority := 2880) ev_iq_tuple_non {S : Sto} {K : Bool → Prop} : Ev (IsiQ ["tuple"] .non S K) (K false) := ⟨iq_tuple_non⟩
instance (priority := 2870) ev_iq_list_tup {S : Sto} {xs : List D} {K : Bool → Prop} : Ev (IsiQ ["list"] (.tup xs) S K) (K false) := ⟨iq_list_tup⟩
instance (priority := 2860) ev_iq_list_lst {S : Sto} {xs : List D} {K : Bool → Prop} : Ev (IsiQ ["list"] (.lst xs) S K) (K true) := ⟨iq_list_lst⟩
instance (priority := 2850) ev_iq_list_N {S : Sto} {n : Nat} {K : Bool → Prop} : Ev (IsiQ ["list"] (dN n) S K) (K false) := ⟨iq_list_N⟩
instance (priority := 2840) ev_iq_list_I {S : Sto} {j : Int} {K : Bool → Prop} : Ev (IsiQ ["list"] (.int j) S K) (K false) := ⟨iq_list_I⟩
instance (priority := 2830) ev_iq_list_str {S : Sto} {z : Str} {K : Bool → Prop} : Ev (IsiQ ["list"] (.str z) S K) (K false) := ⟨iq_list_str⟩
instance (priority := 2820) ev_iq_list_bl {S : Sto} {w : Bool} {K : Bool → Prop} : Ev (IsiQ ["list"] (.bl w) S K) (K false) := ⟨iq_list_bl⟩
instance (priority := 2810) ev_iq_list_non {S : Sto} {K : Bool → Prop} : Ev (IsiQ ["list"] .non S K) (K false) := ⟨iq_list_non⟩
instance (priority := 2800) ev_iq_bool_tup {S : Sto} {xs : List D} {K : Bool → Prop} : Ev (IsiQ ["bool"] (.tup xs) S K) (K false) := ⟨iq_bool_tup⟩
instance (priority := 2790) ev_iq_bool_lst {S : Sto} {xs : List D} {K : Bool → Prop} : Ev (IsiQ ["bool"] (.lst xs) S K) (K false) := ⟨iq_bool_lst⟩
instance (priority := 2780) ev_iq_bool_N {S : Sto} {n : Nat} {K : Bool → Prop} : Ev (IsiQ ["bool"] (dN n) S K) (K false) := ⟨iq_bool_N⟩
instance (priority := 2770) ev_iq_bool_I {S : Sto} {j : Int} {K : Bool → Prop} : Ev (IsiQ ["bool"] (.int j) S K) (K false) := ⟨iq_bool_I⟩
instance (priority := 2760) ev_iq_bool_str {S : Sto} {z : Str} {K : Bool → Prop} : Ev (IsiQ ["bool"] (.str z) S K) (K false) := ⟨iq_bool_str⟩
instance (priority := 2750) ev_iq_bool_bl {S : Sto} {w : Bool} {K : Bool → Prop} : Ev (IsiQ ["bool"] (.bl w) S K) (K true) := ⟨iq_bool_bl⟩
instance (priority := 2740) ev_iq_bool_non {S : Sto} {K : Bool → Prop} : Ev (IsiQ ["bool"] .non S K) (K false) := ⟨iq_bool_non⟩
instance (priority := 2730) ev_iq_int_tup {S : Sto} {xs : List D} {K : Bool → Prop} : Ev (IsiQ ["int"] (.tup xs) S K) (K false) := ⟨iq_int_tup⟩
instance (priority := 2720) ev_iq_int_lst {S : Sto} {xs : List D} {K : Bool → Prop} : Ev (IsiQ ["int"] (.lst xs) S K) (K false) := ⟨iq_int_lst⟩
instance (priority := 2710) ev_iq_int_N {S : Sto} {n : Nat} {K : Bool → Prop} : Ev (IsiQ ["int"] (dN n) S K) (K true) := ⟨iq_int_N⟩
instance (priority := 2700) ev_iq_int_I {S : Sto} {j : Int} {K : Bool → Prop} : Ev (IsiQ ["int"] (.int j) S K) (K true) := ⟨iq_int_I⟩
instance (priority := 2690) ev_iq_int_str {S : Sto} {z : Str} {K : Bool → Prop} : Ev (IsiQ ["int"] (.str z) S K) (K false) := ⟨iq_int_str⟩
instance (priority := 2680) ev_iq_int_bl {S : Sto} {w : Bool} {K : Bool → Prop} : Ev (IsiQ ["int"] (.bl w) S K) (K true) := ⟨iq_int_bl⟩
instance (priority := 2670) ev_iq_int_non {S : Sto} {K : Bool → Prop} : Ev (IsiQ ["int"] .non S K) (K false) := ⟨iq_int_non⟩
instance (priority := 2660) ev_iq_str_tup {S : Sto} {xs : List D} {K : Bool → Prop} : Ev (IsiQ ["str"] (.tup xs) S K) (K false) := ⟨iq_str_tup⟩
instance (priority := 2650) ev_iq_str_lst {S : Sto} {xs : List D} {K : Bool → Prop} : Ev (IsiQ ["str"] (.lst xs) S K) (K false) := ⟨iq_str_lst⟩
instance (priority := 2640) ev_iq_str_N {S : Sto} {n : Nat} {K : Bool → Prop} : Ev (IsiQ ["str"] (dN n) S K) (K false) := ⟨iq_str_N⟩
instance (priority := 2630) ev_iq_str_I {S : Sto} {j : Int} {K : Bool → Prop} : Ev (IsiQ ["str"] (.int j) S K) (K false) := ⟨iq_str_I⟩
instance (priority := 2620) ev_iq_str_str {S : Sto} {z : Str} {K : Bool → Prop} : Ev (IsiQ ["str"] (.str z) S K) (K true) := ⟨iq_str_str⟩
instance (priority := 2610) ev_iq_str_bl {S : Sto} {w : Bool} {K : Bool → Prop} : Ev (IsiQ ["str"] (.bl w) S K) (K false) := ⟨iq_str_bl⟩
instance (priority := 2600) ev_iq_str_non {S : Sto} {K : Bool → Prop} : Ev (IsiQ ["str"] .non S K) (K false) := ⟨iq_str_non⟩
instance (priority := 4840) ev_lq_0 : Ev (LenQ 0 [] P) (P) := ⟨lq_0⟩
instance (priority := 4740) ev_lb_0 : Ev (LenB [] P) (P) := ⟨lb_0⟩
instance (priority := 4870) ev_lq_1 {e0 : D} : Ev (LenQ 1 [e0] P) (P) := ⟨lq_1⟩
instance (priority := 4770) ev_lb_1 {e0 : D} : Ev (LenB [e0] P) (P) := ⟨lb_1⟩
instance (priority := 4880) ev_lq_2 {e0 e1 : D} : Ev (LenQ 2 [e0, e1] P) (P) := ⟨lq_2⟩
instance (priority := 4780) ev_lb_2 {e0 e1 : D} : Ev (LenB [e0, e1] P) (P) := ⟨lb_2⟩
instance (priority := 4860) ev_lq_3 {e0 e1 e2 : D} : Ev (LenQ 3 [e0, e1, e2] P) (P) := ⟨lq_3⟩
instance (priority := 4760) ev_lb_3 {e0 e1 e2 : D} : Ev (LenB [e0, e1, e2] P) (P) := ⟨lb_3⟩
instance (priority := 4850) ev_lq_4 {e0 e1 e2 e3 : D} : Ev (LenQ 4 [e0, e1, e2, e3] P) (P) := ⟨lq_4⟩
instance (priority := 4750) ev_lb_4 {e0 e1 e2 e3 : D} : Ev (LenB [e0, e1, e2, e3] P) (P) := ⟨lb_4⟩
instance (priority := 4830) ev_lq_5 {e0 e1 e2 e3 e4 : D} : Ev (LenQ 5 [e0, e1, e2, e3, e4] P) (P) := ⟨lq_5⟩
instance (priority := 4730) ev_lb_5 {e0 e1 e2 e3 e4 : D} : Ev (LenB [e0, e1, e2, e3, e4] P) (P) := ⟨lb_5⟩
instance (priority := 4820) ev_lq_6 {e0 e1 e2 e3 e4 e5 : D} : Ev (LenQ 6 [e0, e1, e2, e3, e4, e5] P) (P) := ⟨lq_6⟩
instance (priority := 4720) ev_lb_6 {e0 e1 e2 e3 e4 e5 : D} : Ev (LenB [e0, e1, e2, e3, e4, e5] P) (P) := ⟨lb_6⟩
instance (priority := 4810) ev_lq_7 {e0 e1 e2 e3 e4 e5 e6 : D} : Ev (LenQ 7 [e0, e1, e2, e3, e4, e5, e6] P) (P) := ⟨lq_7⟩
instance (priority := 4710) ev_lb_7 {e0 e1 e2 e3 e4 e5 e6 : D} : Ev (LenB [e0, e1, e2, e3, e4, e5, e6] P) (P) := ⟨lb_7⟩
instance (priority := 4800) ev_lq_8 {e0 e1 e2 e3 e4 e5 e6 e7 : D} : Ev (LenQ 8 [e0, e1, e2, e3, e4, e5, e6, e7] P) (P) := ⟨lq_8⟩
instance (priority := 4700) ev_lb_8 {e0 e1 e2 e3 e4 e5 e6 e7 : D} : Ev (LenB [e0, e1, e2, e3, e4, e5, e6, e7] P) (P) := ⟨lb_8⟩
instance (priority := 4790) ev_lq_9 {e0 e1 e2 e3 e4 e5 e6 e7 e8 : D} : Ev (LenQ 9 [e0, e1, e2, e3, e4, e5, e6, e7, e8] P) (P) := ⟨lq_9⟩
instance (priority := 4690) ev_lb_9 {e0 e1 e2 e3 e4 e5 e6 e7 e8 : D} : Ev (LenB [e0, e1, e2, e3, e4, e5, e6, e7, e8] P) (P) := ⟨lb_9⟩
instance (priority := 4680) ev_lb_10 {e0 e1 e2 e3 e4 e5 e6 e7 e8 e9 : D} : Ev (LenB [e0, e1, e2, e3, e4, e5, e6, e7, e8, e9] P) (P) := ⟨lb_10⟩
instance (priority := 4670) ev_lb_11 {e0 e1 e2 e3 e4 e5 e6 e7 e8 e9 e10 : D} : Ev (LenB [e0, e1, e2, e3, e4, e5, e6, e7, e8, e9, e10] P) (P) := ⟨lb_11⟩
instance (priority := 4660) ev_lb_12 {e0 e1 e2 e3 e4 e5 e6 e7 e8 e9 e10 e11 : D} : Ev (LenB [e0, e1, e2, e3, e4, e5, e6, e7, e8, e9, e10, e11] P) (P) := ⟨lb_12⟩
instance (priority := 4650) ev_lb_13 {e0 e1 e2 e3 e4 e5 e6 e7 e8 e9 e10 e11 e12 : D} : Ev (LenB [e0, e1, e2, e3, e4, e5, e6, e7, e8, e9, e10, e11, e12] P) (P) := ⟨lb_13⟩
instance (priority := 3080) ev_lqr_1 {e0 : D} {F : List D → Sto → Rs D} : Ev (LenQ 1 (permL [0] ([] ++ [e0])) (W (F (permL [0] ([] ++ [e0])) S) R Q)) (W (F [e0] S) R Q) := ⟨lqr_1⟩
instance (priority := 3070) ev_lqr_2 {e0 e1 : D} {F : List D → Sto → Rs D} : Ev (LenQ 2 (permL [1, 0] ([] ++ [e0, e1])) (W (F (permL [1, 0] ([] ++ [e0, e1])) S) R Q)) (W (F [e1, e0] S) R Q) := ⟨lqr_2⟩
instance (priority := 3060) ev_lqr_3 {e0 e1 e2 : D} {F : List D → Sto → Rs D} : Ev (LenQ 3 (permL [2, 1, 0] ([] ++ [e0, e1, e2])) (W (F (permL [2, 1, 0] ([] ++ [e0, e1, e2])) S) R Q)) (W (F [e2, e1, e0] S) R Q) := ⟨lqr_3⟩
instance (priority := 3050) ev_lqr_4 {e0 e1 e2 e3 : D} {F : List D → Sto → Rs D} : Ev (LenQ 4 (permL [3, 2, 1, 0] ([] ++ [e0, e1, e2, e3])) (W (F (permL [3, 2, 1, 0] ([] ++ [e0, e1, e2, e3])) S) R Q)) (W (F [e3, e2, e1, e0] S) R Q) := ⟨lqr_4⟩
instance (priority := 3040) ev_lqr_5 {e0 e1 e2 e3 e4 : D} {F : List D → Sto → Rs D} : Ev (LenQ 5 (permL [4, 3, 2, 1, 0] ([] ++ [e0, e1, e2, e3, e4])) (W (F (permL [4, 3, 2, 1, 0] ([] ++ [e0, e1, e2, e3, e4])) S) R Q)) (W (F [e4, e3, e2, e1, e0] S) R Q) := ⟨lqr_5⟩
instance (priority := 3030) ev_lqr_6 {e0 e1 e2 e3 e4 e5 : D} {F : List D → Sto → Rs D} : Ev (LenQ 6 (permL [5, 4, 3, 2, 1, 0] ([] ++ [e0, e1, e2, e3, e4, e5])) (W (F (permL [5, 4, 3, 2, 1, 0] ([] ++ [e0, e1, e2, e3, e4, e5])) S) R Q)) (W (F [e5, e4, e3, e2, e1, e0] S) R Q) := ⟨lqr_6⟩
instance (priority := 3020) ev_lqr_7 {e0 e1 e2 e3 e4 e5 e6 : D} {F : List D → Sto → Rs D} : Ev (LenQ 7 (permL [6, 5, 4, 3, 2, 1, 0] ([] ++ [e0, e1, e2, e3, e4, e5, e6])) (W (F (permL [6, 5, 4, 3, 2, 1, 0] ([] ++ [e0, e1, e2, e3, e4, e5, e6])) S) R Q)) (W (F [e6, e5, e4, e3, e2, e1, e0] S) R Q) := ⟨lqr_7⟩
end
section
variable {α : Type} {env : En} {S : Sto} {QF : Fl → Sto → Prop} {g : GM} {b : SM} {mk : α → D}
instance (priority := 4070) ev_lp_next {P : En → Sto → Prop} : Ev (Lp P QF (.next env) S) (P env S) := ⟨lp_next⟩
instance (priority := 4060) ev_lp_cnt {P : En → Sto → Prop} : Ev (Lp P QF (.cnt env) S) (P env S) := ⟨lp_cnt⟩
instance (priority := 4050) ev_lp_brk {P : En → Sto → Prop} : Ev (Lp P QF (.brk env) S) (QF (.next env) S) := ⟨lp_brk⟩
instance (priority := 4040) ev_lp_ret {P : En → Sto → Prop} {d : D} : Ev (Lp P QF (.ret d) S) (QF (.ret d) S) := ⟨lp_ret⟩
instance (priority := 4030) ev_lp_exc {P : En → Sto → Prop} {e : XV} : Ev (Lp P QF (.exc e env) S) (QF (.exc e env) S) := ⟨lp_exc⟩
instance (priority := 4130) ev_x_for {fi : EI} : Ev (X (zFor fi g b env S) QF) (W (fi env S) (fun e S => QF (.exc e env) S) fun s T => ForL s g b env T QF) := ⟨x_for⟩
end
section
variable {α : Type} {env : En} {S : Sto} {Q : D → Sto → Prop} {g : GM} {ft : EM Bool} {fe : EM D} {mk v : α → D} {p : α → Bool} {k : Mk} {R : XV → Sto → Prop}
instance (priority := 4020) ev_w_lcK {vs : List Nat} {fi : EI} : Ev (W (zLcK k vs fi g ft fe env S) R Q) (W (fi env S) R fun s T => LcA k s g ft fe (wipeE env vs) T Q) := ⟨w_lcK⟩
instance (priority := 4010) ev_w_lc2K {vs vs1 : List Nat} {fi fi1 : EI} {g1 : GM} {ft1 : EM Bool} : Ev (W (zLc2K k vs vs1 fi g ft fi1 g1 ft1 fe env S) R Q) (W (fi env S) R fun s T => LcB k s g ft fi1 g1 ft1 fe vs1 (wipeE env vs) T Q) := ⟨w_lc2K⟩
instance (priority := 4000) ev_w_tG {vs : List Nat} {fi : EI} : Ev (W (zTG vs fi g ft fe env S) R Q) (W (fi env S) R fun s T => TgA s g ft fe (wipeE env vs) T Q) := ⟨w_tG⟩
instance (priority := 3990) ev_w_qG {pol : Bool} {vs : List Nat} {fi : EI} : Ev (W (zQG pol vs fi g ft fe env S) R Q) (W (fi env S) R fun s T => QgA pol s g ft fe (wipeE env vs) T Q) := ⟨w_qG⟩
end
section
variable {S : Sto} {R : XV → Sto → Prop} {Q : D → Sto → Prop} {i : Int} {x : Str} {b : Bool} {xs : List D}
instance (priority := 3010) ev_o_isNI : Ev (W (dIsN (.int i) .non S) R Q) (Q (.bl false) S) := ⟨o_isNI⟩
instance (priority := 3000) ev_o_isNS : Ev (W (dIsN (.str x) .non S) R Q) (Q (.bl false) S) := ⟨o_isNS⟩
instance (priority := 2990) ev_o_isNB : Ev (W (dIsN (.bl b) .non S) R Q) (Q (.bl false) S) := ⟨o_isNB⟩
instance (priority := 2980) ev_o_isNL : Ev (W (dIsN (.lst xs) .non S) R Q) (Q (.bl false) S) := ⟨o_isNL⟩
instance (priority := 2970) ev_o_isNotI : Ev (W (dIsNot (.int i) .non S) R Q) (Q (.bl true) S) := ⟨o_isNotI⟩
instance (priority := 2960) ev_o_isNotS : Ev (W (dIsNot (.str x) .non S) R Q) (Q (.bl true) S) := ⟨o_isNotS⟩
instance (priority := 2950) ev_o_isNotB : Ev (W (dIsNot (.bl b) .non S) R Q) (Q (.bl true) S) := ⟨o_isNotB⟩
end
end V

namespace V
open PySem L2 Z
open PySem.Spec PyProof.Rows
variable [Tabs]
def BackQ (x : D) (K : D → Prop) : Prop := match x with
  | .tup ds => K (.tup ds.reverse)
  | _ => False
section
variable {env : En} {S : Sto} {a : EM D} {R : XV → Sto → Prop} {Q : D → Sto → Prop} {xs : List D} {K : D → Prop}
theorem w_backT (k : W (a env S) R fun x S1 => BackQ x fun d => Q d S1) : W (zBackT a env S) R Q := w_bnd (w_use k (fun _ _ q => q) fun x S1 q => by
  cases x <;> first | exact ⟨q⟩ | exact q.elim)
theorem bkq (k : K (.tup xs.reverse)) : BackQ (.tup xs) K := k
instance ev_backT : Ev (W (zBackT a env S) R Q) (W (a env S) R fun x S1 => BackQ x fun d => Q d S1) := ⟨w_backT⟩
instance ev_bkq : Ev (BackQ (.tup xs) K) (K (.tup xs.reverse)) := ⟨bkq⟩
end
end V

namespace V
open PySem L2 Z
open PySem.Spec PyProof.Rows
variable [Tabs]
/-! ### dicts -/
section
variable {a b c : EM D} {env : En} {S : Sto} {R : XV → Sto → Prop} {Q : D → Sto → Prop} {QF : Fl → Sto → Prop}
theorem w_dctN (k : Q (.ptr S.length) (S ++ [.dct [] []])) : W (zDctN env S) R Q := ⟨k⟩
theorem w_dttN (k : Q (.ptr S.length) (S ++ [.dtt false [] []])) : W (zDttN env S) R Q := ⟨k⟩
theorem x_putT (k : W (c env S) (fun e S => QF (.exc e env) S) fun v S1 => W (a env S1) (fun e S => QF (.exc e env) S) fun x S2 => W (b env S2) (fun e S => QF (.exc e env) S) fun y S3 => PutQ (dPutT x y v S3) fun S4 => QF (.next env) S4) : X (zPutT a b c env S) QF :=
  x_st (w_use k (fun _ _ q => q) fun v S1 q => x_st (w_use q (fun _ _ q => q) fun x S2 q => x_st (w_use q (fun _ _ q => q) fun y S3 q => by
    cases h : dPutT x y v S3 with
    | none => rw [h] at q; exact q.elim
    | some e => rw [h] at q; exact ⟨q⟩)))
instance (priority := 4610) ev_w_dctN : Ev (W (zDctN env S) R Q) (Q (.ptr S.length) (S ++ [.dct [] []])) := ⟨w_dctN⟩
instance (priority := 4600) ev_w_dttN : Ev (W (zDttN env S) R Q) (Q (.ptr S.length) (S ++ [.dtt false [] []])) := ⟨w_dttN⟩
instance (priority := 4145) ev_x_putT : Ev (X (zPutT a b c env S) QF) (W (c env S) (fun e S => QF (.exc e env) S) fun v S1 => W (a env S1) (fun e S => QF (.exc e env) S) fun x S2 => W (b env S2) (fun e S => QF (.exc e env) S) fun y S3 => PutQ (dPutT x y v S3) fun S4 => QF (.next env) S4) := ⟨x_putT⟩
end
end V

namespace V
open PySem L2 Z
open PySem.Spec PyProof.Rows
variable [Tabs]
/-! ### range(a, b, -1), and `for k in d` -/
def Rng3 (ds : List D) (K : Src → Prop) : Prop := ∃ n m : Nat, m ≤ n ∧ n ≤ 1000000 ∧ ds = [.int ((n : Int) - 1), .int ((m : Int) - 1), .int (-1)] ∧ K ⟨((List.range (n - m)).map fun k => n - 1 - k).map dN, none⟩
section
variable {env : En} {S : Sto} {r : EM (List D)} {R : XV → Sto → Prop} {Q : Src → Sto → Prop} {QF : Fl → Sto → Prop} {g : GM} {b : SM} {i n : Nat}
theorem w_range3 (k : W (r env S) R fun ds S1 => Rng3 ds fun s => Q s S1) : W (zRange3 r env S) R Q := w_bnd (w_use k (fun _ _ q => q) fun ds S1 q => by
  obtain ⟨n, m, hm, hn, rfl, q⟩ := q
  show W (if (-1 : Int) = -1 ∧ ((m : Int) - 1 ≤ 1000000 ∧ -1000000 ≤ (m : Int) - 1) ∧ ((n : Int) - 1 ≤ 1000000 ∧ -1000000 ≤ (n : Int) - 1) then Rs.ok ⟨(List.range ((n : Int) - 1 - ((m : Int) - 1)).toNat).map fun k => D.int ((n : Int) - 1 - (k : Nat)), none⟩ S1 else .stk) R Q
  rw [if_pos ⟨by omega, by omega, by omega⟩]
  have e : (List.range ((n : Int) - 1 - ((m : Int) - 1)).toNat).map (fun k => D.int ((n : Int) - 1 - (k : Nat))) = ((List.range (n - m)).map fun k => n - 1 - k).map dN := by
    rw [show ((n : Int) - 1 - ((m : Int) - 1)).toNat = n - m by omega, List.map_map]
    refine List.map_congr_left fun k hk => ?_
    have hk := List.mem_range.mp hk
    show D.int _ = D.int ((n - 1 - k : Nat) : Int)
    congr 1
    omega
  rw [e]
  exact ⟨q⟩)
instance (priority := 4405) ev_w_range3 : Ev (W (zRange3 r env S) R Q) (W (r env S) R fun ds S1 => Rng3 ds fun s => Q s S1) := ⟨w_range3⟩
end
/-! ### a table of truths in cells -/
def oT (n p : Nat) (r : Nat → Nat → Bool) : Sto := (MB n r).map C.lst ++ [.lst ((List.range' p n).map D.ptr)]
section
variable {n p x y : Nat} {r : Nat → Nat → Bool} {S0 : Sto} (h : S0.length = p)
include h
theorem oT_out : (S0 ++ oT n p r)[p + n]? = some (.lst ((List.range' p n).map D.ptr)) := by
  rw [suf_at h, oT, List.getElem?_append_right (by simp [MB_len]), List.length_map, MB_len, Nat.sub_self]
  rfl
theorem oT_row (hx : x < n) : (S0 ++ oT n p r)[p + x]? = some (.lst (rowB n (r x))) := by
  rw [suf_at h, oT, List.getElem?_append_left (by simp [MB_len, hx]), List.getElem?_map, MB_at hx]
  rfl
theorem oT_set {v : Bool} (hx : x < n) : (S0 ++ oT n p r).set (p + x) (.lst ((rowB n (r x)).set y (.bl v))) = S0 ++ oT n p fun a b => if a = x ∧ b = y then v else r a b := by
  rw [suf_set h, oT, List.set_append_left _ _ (by simp [MB_len, hx]), rowB_set, ← List.map_set, MB_set]
  unfold oT
  rw [MB_congr (r := fun a => if a = x then (fun b => if b = y then v else r x b) else r a) (r' := fun a b => if a = x ∧ b = y then v else r a b) fun a b _ _ => by
    by_cases e : a = x
    · subst e; simp
    · simp [e]]
end
section
variable {n p x y : Nat} {r : Nat → Nat → Bool} {S0 S : Sto} {R : XV → Sto → Prop} {Q : D → Sto → Prop} {K : Sto → Prop} {env : En} {g : GM} {fe : EM D}
theorem ixt_out (h : S0.length = p) (hx : x < n) (k : Q (.ptr (p + x)) (S0 ++ oT n p r)) : W (dIx (.ptr (p + n)) (dN x) (S0 ++ oT n p r)) R Q :=
  ix_gen (anyOf_ptr (oT_out h)) (by simp [hx]) k
theorem ixt_row (h : S0.length = p) (hx : x < n) (hy : y < n) (k : Q (.bl (r x y)) (S0 ++ oT n p r)) : W (dIx (.ptr (p + x)) (dN y) (S0 ++ oT n p r)) R Q :=
  ix_gen (anyOf_ptr (oT_row h hx)) (by simp [rowB, hy]) k
theorem put_row {v : Bool} (h : S0.length = p) (hx : x < n) (hy : y < n) (k : K (S0 ++ oT n p fun a b => if a = x ∧ b = y then v else r a b)) : PutQ (stSet (.ptr (p + x)) (dN y) (.bl v) (S0 ++ oT n p r)) K :=
  put_n (oT_row h hx) (by rw [rowB_len]; exact hy) (by rw [oT_set h hx]; exact k)
/-- a new table, all false -/
theorem lc_tab (hn : n ≤ 1000000) (h : ∀ i T, i < n → G (g (dN i) env) fun e => W (fe e T) N0 fun d T1 => d = .ptr T.length ∧ T1 = T ++ [.lst (List.replicate n (.bl false))])
    (q : Q (.ptr (S.length + n)) (S ++ oT n S.length fun _ _ => false)) : LcA .cel ⟨(List.range n).map dN, none⟩ g zYes fe env S Q := by
  refine lc_any (L := List.range n) (mk := dN) (fun i acc T => acc = (List.range' S.length i).map D.ptr ∧ T = S ++ (List.range i).map fun _ => C.lst (rowB n fun _ => false)) (by simp [bigN]; omega) ⟨rfl, by simp⟩ ?_ ?_
  · rintro i hi acc T ⟨rfl, rfl⟩
    rw [List.length_range] at hi
    have st := h i (S ++ (List.range i).map fun _ => C.lst (rowB n fun _ => false)) hi
    rw [List.getElem_range]
    obtain ⟨e, h1, h2⟩ := G_ex st
    rw [h1]
    refine w_use0 (show W (zYes e _) N0 fun c T => c = true ∧ T = _ from ⟨⟨rfl, rfl⟩⟩) fun c T1 ⟨hc, hT⟩ => ?_
    subst hc; subst hT
    refine br_t (w_use0 h2 fun d T2 ⟨hd, hT⟩ => ?_)
    subst hd; subst hT
    refine ⟨?_, ?_⟩
    · rw [List.range'_concat, List.map_append]
      simp
    · rw [List.range_succ, List.map_append, rowB_rep]
      simp
  · rintro acc T _ ⟨rfl, rfl⟩
    rw [List.length_range]
    refine w_ok (a := D.ptr (S.length + n)) (S := S ++ oT n S.length fun _ _ => false) ?_ q
    show Rs.ok (D.ptr (S ++ (List.range n).map fun _ => C.lst (rowB n fun _ => false)).length) _ = _
    have e1 : (S ++ (List.range n).map fun _ => C.lst (rowB n fun _ => false)).length = S.length + n := by simp
    rw [e1]
    congr 1
    unfold oT MB
    rw [List.append_assoc, List.map_map]
    rfl
end
/-! ### an empty list -/
section
variable {S : Sto} {R : XV → Sto → Prop} {Q : D → Sto → Prop} {xs : List D}
end
section
variable {S : Sto} {R : XV → Sto → Prop} {Q : D → Sto → Prop} {K : Sto → Prop} {p : Nat} {b : Bool} {ks : List (List Key)} {ds : List D} {k v : D} {key : List Key}
end
end V

namespace V
open PySem L2 Z
open PySem.Spec PyProof.Rows
variable [Tabs]
section
variable {α : Type} {env : En} {S : Sto} {r : EM (List D)} {R : XV → Sto → Prop} {Q : D → Sto → Prop} {QS : Src → Sto → Prop} {xs ys : List D} {x d : D}
theorem ix_last (h : anyOf x S = some (xs ++ [d])) (k : Q d S) : W (dIx x (.int (-((1 : Nat) : Int))) S) R Q := by
  refine w_ok (a := d) (S := S) ?_ k
  unfold dIx
  simp only [h]
  have e : atI (xs ++ [d]) (-((1 : Nat) : Int)) = some d := by
    unfold atI ixN
    rw [List.length_append, List.length_singleton, if_neg (by omega), if_pos (by omega)]
    show (xs ++ [d])[_]? = some d
    rw [show (-((1 : Nat) : Int) + ((xs.length + 1 : Nat) : Int)).toNat = xs.length by omega]
    simp
  rw [e]
theorem shaped_map {g : α → PyData} {L : List α} (h1 : ∀ a ∈ L, PyData.canLay0 (g a) = true) (h2 : ∀ a ∈ L, PyData.depth (g a) ≤ 9) : SeqAt.shaped (.list (L.map g)) = true := by
  have h : ∀ L : List α, (∀ a ∈ L, PyData.canLay0 (g a) = true) → (∀ a ∈ L, PyData.depth (g a) ≤ 9) → PyData.canLayAll0 (L.map g) = true ∧ PyData.depthAll (L.map g) ≤ 9 := by
    intro L
    induction L with
    | nil => intro _ _; simp [PyData.canLayAll0, PyData.depthAll]
    | cons p L ih =>
      intro g1 g2
      have ih := ih (fun a ha => g1 a (List.mem_cons_of_mem _ ha)) fun a ha => g2 a (List.mem_cons_of_mem _ ha)
      rw [List.map_cons]
      unfold PyData.canLayAll0 PyData.depthAll
      exact ⟨by rw [g1 p List.mem_cons_self, ih.1]; rfl, Nat.max_le.mpr ⟨g2 p List.mem_cons_self, ih.2⟩⟩
  have h3 := (h L h1 h2).2
  unfold SeqAt.shaped
  simp only [PyData.canLay0, PyData.depth, (h L h1 h2).1, Bool.true_and]
  exact (decide_eq_true (by omega))
section
variable [DecidableEq α] {f : α → D} {g : α → PyData} {a : α} {L : List α}
end
/-! ### enumerate of a tuple -/
def EnB (ds : List D) (K : Src → Prop) : Prop := ∃ es, ds = [.tup es] ∧ K ⟨es.zipIdx.map fun p => D.tup [.int (p.2 : Nat), p.1], none⟩
theorem w_enumB (k : W (r env S) R fun ds S1 => EnB ds fun s => QS s S1) : W (zEnumB r env S) R QS := w_bnd (w_use k (fun _ _ q => q) fun ds S1 q => by
  obtain ⟨es, rfl, q⟩ := q
  exact ⟨q⟩)
instance (priority := 4406) ev_w_enumB : Ev (W (zEnumB r env S) R QS) (W (r env S) R fun ds S1 => EnB ds fun s => QS s S1) := ⟨w_enumB⟩
end
end V

namespace V
open PySem L2 Z
open PySem.Spec PyProof.Rows
variable [Tabs]
/-! ### two clauses -/
section
variable {α β : Type} {env : En} {S : Sto} {Q : D → Sto → Prop} {g g1 : GM} {ft ft1 : EM Bool} {fi1 : EI} {fe : EM D} {vs1 : List Nat} {mk : α → D} {mk1 : β → D} {L : List α} {L1 : α → List β} {p1 : α → β → Bool} {v : α → β → D} {k : Mk} {c : Nat}
end
/-! ### a walk along a list in a cell -/
section
variable {α : Type} {env : En} {S : Sto} {QF : Fl → Sto → Prop} {g : GM} {b : SM} {mk : α → D}
theorem for_itemsG {s : Src} (P : List α → En → Sto → Prop) (hs : ∀ L' env T, P L' env T → s.okAt T = true) : ∀ (L : List α) (env : En) (S : Sto), P L env S →
    (∀ a L' env T, (∃ L0, L = L0 ++ a :: L') → P (a :: L') env T → G (g (mk a) env) fun e => X (b e T) (Lp (P L') QF)) → (∀ env T, P [] env T → QF (.next env) T) → X (forL s g b (L.map mk) env S) QF
  | [], env, S, h, _, fin => by
    rw [List.map_nil, forL]
    show X (if s.okAt S = true then _ else _) QF
    rw [if_pos (hs _ _ _ h)]; exact ⟨fin _ _ h⟩
  | a :: L, env, S, h, step, fin => by
    have q := step a L env S ⟨[], rfl⟩ h
    rw [List.map_cons, forL]
    show X (if s.okAt S = true then _ else _) QF
    rw [if_pos (hs _ _ _ h)]
    cases hg : g (mk a) env with
    | none => rw [hg] at q; exact q.elim
    | some e =>
      rw [hg] at q
      have q : X (b e S) (Lp (P L) QF) := q
      show X ((b e S).turn (forL s g b (L.map mk))) QF
      cases hb : b e S with
      | stk => rw [hb] at q; exact q.of.elim
      | mk f S1 =>
        rw [hb] at q
        have go : ∀ e1, P L e1 S1 → X (forL s g b (L.map mk) e1 S1) QF := fun e1 h1 => for_itemsG P hs L e1 S1 h1 (fun a' L' env' T ⟨L0, e'⟩ => step a' L' env' T ⟨a :: L0, by rw [e']; rfl⟩) fin
        cases f with
        | next e1 => exact go e1 q.of
        | cnt e1 => exact go e1 q.of
        | brk e1 => exact ⟨q.of⟩
        | ret d => exact ⟨q.of⟩
        | exc x e1 => exact ⟨q.of⟩
theorem for_c {L : List α} {n : Nat} (P : List α → En → Sto → Prop) (hat : ∀ L' env T, P L' env T → T[n]? = some (.lst (L.map mk))) (h0 : P L env S) (step : ∀ a L' env T, (∃ L0, L = L0 ++ a :: L') → P (a :: L') env T → G (g (mk a) env) fun e => X (b e T) (Lp (P L') QF)) (fin : ∀ env T, P [] env T → QF (.next env) T) : ForL ⟨L.map mk, some n⟩ g b env S QF :=
  for_itemsG P (fun L' env T h => okAt_of (hat L' env T h)) L env S h0 step fin
theorem src_rot {xs : List D} {K : Src → Prop} (k : K ⟨xs, none⟩) : ∃ s, srcOf (.rot xs) S = some s ∧ K s := ⟨_, rfl, k⟩
instance (priority := 4385) ev_src_rot {xs : List D} {K : Src → Prop} : Ev (∃ s, srcOf (.rot xs) S = some s ∧ K s) (K ⟨xs, none⟩) := ⟨src_rot⟩
end
end V

namespace V
open PySem L2 Z
open PySem.Spec PyProof.Rows
variable [Tabs]
section
variable {env : En} {S : Sto} {a : EM D} {R : XV → Sto → Prop} {Q : D → Sto → Prop} {xs : List D} {K : Bool → Prop}
theorem w_notT (k : W (a env S) R fun x S1 => TruQ S1 x fun v => Q (.bl (!v)) S1) : W (zNotT a env S) R Q := w_bnd (w_use k (fun _ _ q => q) fun x S1 q => by
  have q : (match truD S1 x with
    | some v => Q (.bl (!v)) S1
    | none => False) := q
  show W (notTR (truD S1 x) S1) R Q
  cases h : truD S1 x with
  | none =>
    rw [h] at q
    exact False.elim q
  | some b =>
    rw [h] at q
    exact ⟨q⟩)
instance (priority := 4525) ev_w_notT : Ev (W (zNotT a env S) R Q) (W (a env S) R fun x S1 => TruQ S1 x fun v => Q (.bl (!v)) S1) := ⟨w_notT⟩
end
end V

namespace V
open PySem L2 Z
open PySem.Spec PyProof.Rows
variable [Tabs]
section
variable {S : Sto} {R : XV → Sto → Prop} {Q : D → Sto → Prop} {xs : List D}
end
end V

namespace V
open PySem L2 Z
open PySem.Spec PyProof.Rows
variable [Tabs]
/-! ### instances -/
section
variable {env : En} {S : Sto} {a c : EM D} {r : EM (List D)} {R : XV → Sto → Prop} {Q : D → Sto → Prop} {QF : Fl → Sto → Prop} {nm f m : Str} {F : List D → Sto → Rs D} {n i : Nat} {ks : List Str} {ds : List D} {d x v : D}
def FldQ (nm f : Str) (x : D) (S : Sto) (K : D → Prop) : Prop := ∃ d, fldD nm f x S = some d ∧ K d
theorem w_fld (k : W (a env S) R fun x S1 => FldQ nm f x S1 fun d => Q d S1) : W (zFld nm f a env S) R Q := w_bnd (w_use k (fun _ _ q => q) fun x S1 q => by
  obtain ⟨d, e, q⟩ := q
  show W (oR (fldD nm f x S1) S1) R Q
  rw [e]; exact ⟨q⟩)
instance (priority := 4526) ev_w_fld : Ev (W (zFld nm f a env S) R Q) (W (a env S) R fun x S1 => FldQ nm f x S1 fun d => Q d S1) := ⟨w_fld⟩
theorem w_methO (k : W (a env S) R fun x S1 => isO nm m x S1 = true ∧ W (r env S1) R fun xs S2 => LenQ n (x :: xs) (W (F (x :: xs) S2) N0 Q)) : W (zMethO nm m n F a r env S) R Q := w_bnd (w_use k (fun _ _ q => q) fun x S1 q => by
  show W (if isO nm m x S1 = true then _ else _) R Q
  rw [if_pos q.1]
  exact w_bnd (w_use q.2 (fun _ _ q => q) fun xs S2 q => by
    show W (if (x :: xs).length = n then _ else _) R Q
    rw [if_pos q.1]; exact w_nox q.2))
instance (priority := 4527) ev_w_methO : Ev (W (zMethO nm m n F a r env S) R Q) (W (a env S) R fun x S1 => isO nm m x S1 = true ∧ W (r env S1) R fun xs S2 => LenQ n (x :: xs) (W (F (x :: xs) S2) N0 Q)) := ⟨w_methO⟩
theorem w_make (k : W (r env S) R fun xs S1 => LenQ n (D.ptr S1.length :: xs) (W (F (D.ptr S1.length :: xs) (S1 ++ [.obj nm [] []])) N0 fun d S2 => d = .non ∧ Q (.ptr S1.length) S2)) : W (zMake nm n F r env S) R Q := w_bnd (w_use k (fun _ _ q => q) fun xs S1 q => by
  show W (if (D.ptr S1.length :: xs).length = n then _ else _) R Q
  rw [if_pos q.1]
  exact w_bnd (w_nox (w_use q.2 (fun _ _ q => q) fun d S2 q => by
    obtain ⟨rfl, q⟩ := q
    exact ⟨q⟩)))
instance (priority := 4528) ev_w_make : Ev (W (zMake nm n F r env S) R Q) (W (r env S) R fun xs S1 => LenQ n (D.ptr S1.length :: xs) (W (F (D.ptr S1.length :: xs) (S1 ++ [.obj nm [] []])) N0 fun d S2 => d = .non ∧ Q (.ptr S1.length) S2)) := ⟨w_make⟩
theorem x_putF (k : W (c env S) (fun e S => QF (.exc e env) S) fun v S1 => W (a env S1) (fun e S => QF (.exc e env) S) fun x S2 => PutQ (putFD nm f x v S2) fun S3 => QF (.next env) S3) : X (zPutF nm f a c env S) QF :=
  x_st (w_use k (fun _ _ q => q) fun v S1 q => x_st (w_use q (fun _ _ q => q) fun x S2 q => by
    cases h : putFD nm f x v S2 with
    | none => rw [h] at q; exact False.elim q
    | some e => rw [h] at q; exact ⟨q⟩))
instance (priority := 4145) ev_x_putF : Ev (X (zPutF nm f a c env S) QF) (W (c env S) (fun e S => QF (.exc e env) S) fun v S1 => W (a env S1) (fun e S => QF (.exc e env) S) fun x S2 => PutQ (putFD nm f x v S2) fun S3 => QF (.next env) S3) := ⟨x_putF⟩
end
end V

namespace V
open PySem L2 Z
open PySem.Spec PyProof.Rows
variable [Tabs]
/-! ### a state of several cells that stands first in the store; a def may change these cells only -/
structure KA where
  ok : Sto → Prop
  j : Nat
  len : ∀ A, ok A → A.length = j
  cl : ∀ A k, ok A → j ≤ k → ∀ c ∈ A, C.cl k c
section
variable {K : KA} {A A' B L : Sto} {R : XV → Sto → Prop} {Q : D → Sto → Prop} {d d1 : D} {fu : Nat} {env : En}
theorem KA.shut (h : K.ok A) (h' : K.ok A') (hd : D.cl (A ++ B).length d) : Shut (A ++ B) d (A' ++ (B ++ L)) := by
  have e1 := K.len A h
  have e2 := K.len A' h'
  refine ⟨by simp only [List.length_append]; omega, hd, fun n c hn e => ?_⟩
  rw [List.length_append] at hn
  by_cases q : n < K.j
  · rw [List.getElem?_append_left (by omega)] at e
    exact .inr (K.cl A' _ h' (by rw [List.length_append]; omega) c (List.mem_of_getElem? e))
  · rw [List.getElem?_append_right (by omega), List.getElem?_append_left (by omega)] at e
    exact .inl (by rw [List.getElem?_append_right (by omega), e1, ← e2]; exact e)
theorem fin_a {L' : Sto} (h : K.ok A) (h' : K.ok A') (hf : frz fu d (A' ++ (B ++ L)) = some (d1, A' ++ (B ++ L'))) (hd : D.cl (A ++ B).length d1) (k : Q d1 (A' ++ B)) : FinQ fu (A ++ B) R Q (.ret d) (A' ++ (B ++ L)) :=
  fin_same hf (KA.shut h h' hd) (by
    rw [← List.append_assoc, List.take_left' (by rw [List.length_append, List.length_append, K.len A h, K.len A' h'])]
    exact k)
theorem fin_aL (h : K.ok A) (h' : K.ok A') (hd : D.cl (A ++ B).length d) (k : Q d (A' ++ B)) : FinQ 0 (A ++ B) R Q (.ret d) (A' ++ (B ++ L)) := fin_a (L' := L) h h' (by unfold frz; rfl) hd k
theorem fin_a0 (h : K.ok A) (h' : K.ok A') (hd : D.cl (A ++ B).length d) (k : Q d (A' ++ B)) : FinQ 0 (A ++ B) R Q (.ret d) (A' ++ B) := by
  have := fin_aL (L := []) (R := R) h h' hd k
  rwa [List.append_nil] at this
theorem fin_a1 {xs : List D} {L1 L2 : Sto} {j : Nat} (h : K.ok A) (h' : K.ok A') (hj : j = (A' ++ B).length + L1.length) (hd : D.cl (A ++ B).length (.lst xs)) (k : Q (.lst xs) (A' ++ B)) : FinQ 1 (A ++ B) R Q (.ret (.ptr j)) (A' ++ (B ++ (L1 ++ .lst xs :: L2))) := by
  subst hj
  have e := frz_oneAt (S := A' ++ B) (xs := xs) (L1 := L1) (L2 := L2)
  (rw [List.append_assoc, List.append_assoc] at e)
  exact fin_a h h' e hd k
end
end V

namespace V
open PySem L2 Z
open PySem.Spec PyProof.Rows
variable [Tabs]
section
variable {S : Sto} {R : XV → Sto → Prop} {Q : D → Sto → Prop}
end
end V

namespace V
open PySem L2 Z
open PySem.Spec PyProof.Rows
variable [Tabs]
/-! ### a table of truths in cells of which some rows have been put in anew, frozen -/
theorem pre_setV {S0 L : Sto} {q : Nat} (c : C) (h : S0.length ≤ q) : ∃ L', (S0 ++ L).set q c = S0 ++ L' := ⟨_, List.set_append_right _ _ h⟩
structure Bx (S0 : Sto) (n : Nat) (e : Nat → Nat → Bool) (g : Nat → D) (T : Sto) : Prop where
  pre : ∃ L, T = S0 ++ L
  out : T[S0.length + n]? = some (.lst ((List.range n).map g))
  row : ∀ i, i < n → (g i = .ptr (S0.length + i) ∧ T[S0.length + i]? = some (.lst (rowB n (e i)))) ∨ g i = .lst (rowB n (e i))
theorem frz_mix {S0 : Sto} {b : Nat → List D} {g : Nat → D} {o : Nat} : ∀ (is : List Nat) (L : Sto), is.Nodup → (∀ i ∈ is, i < o) → (∀ i ∈ is, (g i = .ptr (S0.length + i) ∧ (S0 ++ L)[S0.length + i]? = some (.lst (b i))) ∨ g i = .lst (b i)) →
    ∃ L', frzs 1 (is.map g) (S0 ++ L) = some (is.map fun i => .lst (b i), S0 ++ L') ∧ (S0 ++ L')[S0.length + o]? = (S0 ++ L)[S0.length + o]?
  | [], L, _, _, _ => ⟨L, by simp [frzs], rfl⟩
  | i :: is, L, hn, ho, hr => by
    have ⟨n1, n2⟩ := List.nodup_cons.mp hn
    have hio := ho i List.mem_cons_self
    rcases hr i List.mem_cons_self with ⟨q1, q2⟩ | q1
    · obtain ⟨L1, e1⟩ := pre_setV (S0 := S0) (L := L) (q := S0.length + i) .gone (by omega)
      obtain ⟨L', e2, e3⟩ := frz_mix (S0 := S0) (b := b) (g := g) (o := o) is L1 n2 (fun j hj => ho j (List.mem_cons_of_mem _ hj)) fun j hj => by
        have hne : j ≠ i := fun q => n1 (q ▸ hj)
        rw [← e1, List.getElem?_set_ne (by omega)]
        exact hr j (List.mem_cons_of_mem _ hj)
      refine ⟨L', ?_, ?_⟩
      · have f1 : frz 1 (g i) (S0 ++ L) = some (.lst (b i), S0 ++ L1) := by
          rw [q1, frz, q2]
          simp only [frzs]
          rw [q2]
          simp only []
          rw [e1]
        rw [List.map_cons, frzs]
        simp only [f1, e2]
        rfl
      · rw [e3, ← e1, List.getElem?_set_ne (by omega)]
    · obtain ⟨L', e2, e3⟩ := frz_mix (S0 := S0) (b := b) (g := g) (o := o) is L n2 (fun j hj => ho j (List.mem_cons_of_mem _ hj)) fun j hj => hr j (List.mem_cons_of_mem _ hj)
      refine ⟨L', ?_, e3⟩
      have f1 : frz 1 (g i) (S0 ++ L) = some (.lst (b i), S0 ++ L) := by rw [q1]; simp [frz]
      rw [List.map_cons, frzs]
      simp only [f1, e2]
      rfl

section
variable {S0 T : Sto} {n x y : Nat} {e : Nat → Nat → Bool} {g : Nat → D} {R : XV → Sto → Prop} {Q : D → Sto → Prop} {K : Sto → Prop}
theorem Bx.of (r : Nat → Nat → Bool) : Bx S0 n r (fun i => .ptr (S0.length + i)) (S0 ++ oT n S0.length r) := by
  refine ⟨⟨_, rfl⟩, ?_, fun i hi => .inl ⟨rfl, oT_row rfl hi⟩⟩
  rw [oT_out rfl, List.range'_eq_map_range, List.map_map]
  rfl
theorem Bx.rep (h : Bx S0 n e g T) {x : Nat} (hx : x < n) (f : Nat → Bool) : Bx S0 n (fun i => if i = x then f else e i) (fun i => if i = x then .lst (rowB n f) else g i) (T.set (S0.length + n) (.lst (((List.range n).map g).set x (.lst (rowB n f))))) := by
  obtain ⟨L, rfl⟩ := h.pre
  refine ⟨pre_setV _ (by omega), ?_, fun i hi => ?_⟩
  · rw [List.getElem?_set_self (List.getElem?_eq_some_iff.mp h.out).1]
    congr 2
    refine List.ext_getElem (by simp) ?_
    intro i h1 h2
    simp only [List.getElem_set, List.getElem_map, List.getElem_range]
    by_cases q : x = i
    · simp [q]
    · rw [if_neg q, if_neg fun e : i = x => q e.symm]
  · by_cases q : i = x
    · subst q
      right
      rw [if_pos rfl, if_pos rfl]
    · rw [if_neg q, if_neg q, List.getElem?_set_ne (by omega)]
      exact h.row i hi
theorem Bx.frz (h : Bx S0 n e g T) : ∃ L', Z.frz 2 (.ptr (S0.length + n)) T = some (lessD n e, S0 ++ L') := by
  obtain ⟨L, rfl⟩ := h.pre
  obtain ⟨L', e1, e2⟩ := frz_mix (S0 := S0) (b := fun i => rowB n (e i)) (g := g) (o := n) (List.range n) L List.nodup_range (fun i hi => List.mem_range.mp hi) fun i hi => h.row i (List.mem_range.mp hi)
  rw [h.out] at e2
  obtain ⟨L2, e3⟩ := pre_setV (S0 := S0) (L := L') (q := S0.length + n) .gone (by omega)
  refine ⟨L2, ?_⟩
  rw [Z.frz, h.out]
  simp only [e1]
  rw [e2]
  simp only []
  rw [e3]
  rfl
theorem bx_out (h : Bx S0 n e g T) (hx : x < n) (k : Q (g x) T) : W (dIx (.ptr (S0.length + n)) (dN x) T) R Q := ix_gen (anyOf_ptr h.out) (by simp [hx]) k
theorem bx_row (h : Bx S0 n e g T) (hx : x < n) (hy : y < n) (k : Q (.bl (e x y)) T) : W (dIx (g x) (dN y) T) R Q := by
  rcases h.row x hx with ⟨q1, q2⟩ | q1
  · rw [q1]; exact ix_gen (anyOf_ptr q2) (by simp [rowB, hy]) k
  · rw [q1]; exact ix_gen (xs := rowB n (e x)) rfl (by simp [rowB, hy]) k
theorem bx_put (h : Bx S0 n e g T) (hx : x < n) (f : Nat → Bool) (k : K (T.set (S0.length + n) (.lst (((List.range n).map g).set x (.lst (rowB n f)))))) : PutQ (stSet (.ptr (S0.length + n)) (dN x) (.lst (rowB n f)) T) K := put_n h.out (by simp [hx]) k
end
end V

namespace V
open PySem L2 Z
open PySem.Spec PyProof.Rows
variable [Tabs]
/-! ### except C: without a name -/
def NoX (QF : Fl → Sto → Prop) : Fl → Sto → Prop
  | .exc _ _, _ => False
  | f, S => QF f S
section
variable {env : En} {S : Sto} {QF : Fl → Sto → Prop} {cat : List (Str × Bool)} {fb fh : SM} {d : D} {x : XV}
end
end V

namespace V
open PySem L2 Z
open PySem.Spec PyProof.Rows
variable [Tabs]
section
variable {S : Sto} {R : XV → Sto → Prop} {Q : D → Sto → Prop} {x y : D}
end
end V

namespace V
open PySem L2 Z
open PySem.Spec PyProof.Rows
variable [Tabs]
section
variable {S : Sto} {R : XV → Sto → Prop} {Q : D → Sto → Prop} {x : D} {rs : List (List Int)}
theorem intsOf_map (r : List Int) : intsOf (r.map D.int) = some r := by
  induction r with
  | nil => rfl
  | cons a r ih =>
    simp only [List.map_cons, intsOf, ih]
    rfl
end
end V

namespace V
open PySem L2 Z
open PySem.Spec PyProof.Rows
variable [Tabs]
section
variable {a b c e : EM D} {r : EM (List D)} {env : En} {S : Sto} {QF : Fl → Sto → Prop} {R : XV → Sto → Prop} {Q : D → Sto → Prop} {QL : List D → Sto → Prop} {ks : List Key} {x y v d : D} {n i : Nat} {ds : List D} {ns : List Int}
theorem w_dcons (k : W (a env S) N0 fun x S1 => W (r env S1) R fun xs S2 => QL (x :: xs) S2) : W (zdCons a r env S) R QL := w_bnd (w_nox (w_use k (fun _ _ q => q) fun _ _ q => w_bnd (w_use q (fun _ _ q => q) fun _ _ q => ⟨q⟩)))
instance (priority := 4529) ev_w_dcons : Ev (W (zdCons a r env S) R QL) (W (a env S) N0 fun x S1 => W (r env S1) R fun xs S2 => QL (x :: xs) S2) := ⟨w_dcons⟩
theorem w_dict (k : W (r env S) N0 fun ds S1 => ds.length = ks.length ∧ Q (.ptr S1.length) (S1 ++ [.dct ks ds])) : W (zDict .cel ks r env S) R Q := w_bnd (w_nox (w_use k (fun _ _ q => q) fun ds S1 q => by
  show W (if ds.length = ks.length then _ else _) R Q
  rw [if_pos q.1]
  exact ⟨q.2⟩))
instance (priority := 4530) ev_w_dict : Ev (W (zDict .cel ks r env S) R Q) (W (r env S) N0 fun ds S1 => ds.length = ks.length ∧ Q (.ptr S1.length) (S1 ++ [.dct ks ds])) := ⟨w_dict⟩
theorem o_getD {s : Str} (h : S[n]? = some (.dct ks ds)) (h2 : findK ks (.inr s) = some i) (h3 : ds[i]? = some d) (k : Q d S) : W (dGetD (.ptr n) (.str s) S) R Q := by
  refine w_ok (a := d) (S := S) ?_ k
  unfold dGetD dctOf dKey
  simp only [h, h2, Option.bind_some, h3]
theorem put_D {s : Str} {K : Sto → Prop} (h : S[n]? = some (.dct ks ds)) (h2 : findK ks (.inr s) = some i) (h4 : ks.length < 100) (h5 : ks.Nodup) (k : K (S.set n (.dct ks (ds.set i v)))) : PutQ (dPutS (.ptr n) (.str s) v S) K := by
  have e : dPutS (.ptr n) (.str s) v S = some (S.set n (.dct ks (ds.set i v))) := by
    unfold dPutS dKey
    simp only [h, h2]
    rw [if_pos ⟨Nat.lt_trans h4 (by decide), h5⟩]
  rw [e]; exact k
theorem b_anyI (h : (seqOf d S).bind intsOf = some ns) (k : Q (.bl (ns.any fun i => i != 0)) S) : W (dAnyI [d] S) R Q := by
  refine w_ok (a := .bl (ns.any fun i => i != 0)) (S := S) ?_ k
  show anyIR ((seqOf d S).bind intsOf) S = _
  rw [h]
  rfl
theorem b_sumT (h : intsOf ds = some ns) (k : Q (.int ns.sum) S) : W (dSumT [.tup ds] S) R Q := by
  refine w_ok (a := .int ns.sum) (S := S) ?_ k
  show sumIR (intsOf ds) S = _
  rw [h]
  rfl
theorem w_step2 (k : W (a env S) R fun x S1 => ∃ ds, x = .tup ds ∧ Q (.tup (HT.evens (ds.drop n))) S1) : W (zStep2 n a env S) R Q := w_bnd (w_use k (fun _ _ q => q) fun x S1 q => by
  obtain ⟨ds, rfl, q⟩ := q
  exact ⟨q⟩)
instance (priority := 4531) ev_w_step2 : Ev (W (zStep2 n a env S) R Q) (W (a env S) R fun x S1 => ∃ ds, x = .tup ds ∧ Q (.tup (HT.evens (ds.drop n))) S1) := ⟨w_step2⟩
theorem b_sortI (h : (seqOf d S).bind intsOf = some ns) (hl : ns.length < 64) (k : Q (.lst ((sortNum ns).map D.int)) S) : W (dSortI [d] S) R Q := by
  refine w_ok (a := .lst ((sortNum ns).map D.int)) (S := S) ?_ k
  show srtIR ((seqOf d S).bind intsOf) S = _
  rw [h]
  show (if ns.length < 64 then Rs.ok (D.lst ((sortNum ns).map D.int)) S else .stk) = _
  rw [if_pos hl]
end
end V

namespace V
open PySem L2 Z
open PySem.Spec PyProof.Rows
variable [Tabs]
section
variable {f : EM (List D)} {env : En} {S : Sto} {QF : Fl → Sto → Prop} {i j : Nat}
theorem x_par (k : W (f env S) (fun e S => QF (.exc e env) S) fun ds S1 => ∃ d e, ds = [d, e] ∧ SetQ i env d fun env1 => SetQ j env1 e fun env2 => QF (.next env2) S1) : X (zPar i j f env S) QF :=
  x_st (w_use k (fun _ _ q => q) fun ds S1 q => by
    obtain ⟨d, e, rfl, q⟩ := q
    exact ⟨q⟩)
instance (priority := 4143) ev_x_par : Ev (X (zPar i j f env S) QF) (W (f env S) (fun e S => QF (.exc e env) S) fun ds S1 => ∃ d e, ds = [d, e] ∧ SetQ i env d fun env1 => SetQ j env1 e fun env2 => QF (.next env2) S1) := ⟨x_par⟩
end
end V

namespace K06
open PySem L2 Z
open PySem.Spec PyProof.Rows
variable [Tabs]
abbrev N_lowest_bit : List Str := ["mask"]
noncomputable def run_lowest_bit : SM :=
    (zRet (zOp dSub (zUn dBits (zOp dAnd (zVar 0) (zUn dNeg (zVar 0)))) (zC (.int 1))))
noncomputable def F_lowest_bit : List D → Sto → Rs D := Fof 0 N_lowest_bit run_lowest_bit
abbrev N_bits_of : List Str := ["mask", "points", "x"]
noncomputable def run_bits_of : SM :=
    (zSeq (zSet 1 (zLstC zNil))
    (zSeq (zWhile (fun _ _ => 100000) (zTru (zVar 0)) (zSeq (zSet 2 (zCallF 1 F_lowest_bit (zCons (zVar 0) zNil)))
    (zSeq (zExpr (zMethL dAppend (zVar 1) (zCons (zVar 2) zNil)))
    (zAug 0 dXor (zOp dShl (zC (.int 1)) (zVar 2))))))
    (zRet (zVar 1))))
noncomputable def F_bits_of : List D → Sto → Rs D := Fof 1 N_bits_of run_bits_of
abbrev N_masks_above : List Str := ["order", "ups", "n", "pairs", "x", "y"]
noncomputable def run_masks_above : SM :=
    (zSeq (zAsg (zVar 0) (zgTup 2 (zgCons (zgName 2) (zgCons (zgName 3) zgNil))))
    (zSeq (zSet 1 (zOp dMulC (zLst (zCons (zC (.int 0)) zNil)) (zVar 2)))
    (zSeq (zFor (zSrc (zVar 3)) (zgTup 2 (zgCons (zgName 4) (zgCons (zgName 5) zgNil))) (zAugS (zVar 1) (zVar 4) dOr (zOp dShl (zC (.int 1)) (zVar 5))))
    (zRet (zVar 1)))))
noncomputable def F_masks_above : List D → Sto → Rs D := Fof 1 N_masks_above run_masks_above
abbrev N_masks_below : List Str := ["order", "downs", "n", "pairs", "x", "y"]
noncomputable def run_masks_below : SM :=
    (zSeq (zAsg (zVar 0) (zgTup 2 (zgCons (zgName 2) (zgCons (zgName 3) zgNil))))
    (zSeq (zSet 1 (zOp dMulC (zLst (zCons (zC (.int 0)) zNil)) (zVar 2)))
    (zSeq (zFor (zSrc (zVar 3)) (zgTup 2 (zgCons (zgName 4) (zgCons (zgName 5) zgNil))) (zAugS (zVar 1) (zVar 5) dOr (zOp dShl (zC (.int 1)) (zVar 4))))
    (zRet (zVar 1)))))
noncomputable def F_masks_below : List D → Sto → Rs D := Fof 1 N_masks_below run_masks_below
abbrev N_order_from : List Str := ["ups", "pairs", "y", "x", "mask"]
noncomputable def run_order_from : SM :=
    (zSeq (zSet 1 (zLc2K .frz [3, 4, 2] [2] (zEnum (zCons (zVar 0) zNil)) (zgTup 2 (zgCons (zgName 3) (zgCons (zgName 4) zgNil))) zYes (zSrc (zCallF 1 F_bits_of (zCons (zVar 4) zNil))) (zgName 2) zYes (zTup (zCons (zVar 3) (zCons (zVar 2) zNil)))))
    (zRet (zTup (zCons (zCall dLen (zCons (zVar 0) zNil)) (zCons (zCall dTuple (zCons (zVar 1) zNil)) zNil)))))
noncomputable def F_order_from : List D → Sto → Rs D := Fof 0 N_order_from run_order_from
abbrev N__check_size : List Str := ["n"]
noncomputable def run__check_size : SM :=
    (zIfS (zB (zOp dGt (zVar 0) (zC (.int 64)))) zStk zNext)
noncomputable def F__check_size : List D → Sto → Rs D := Fof 0 N__check_size run__check_size
abbrev N_induced : List Str := ["order", "points", "ups", "places", "pairs", "i", "j"]
noncomputable def run_induced : SM :=
    (zSeq (zExpr (zCallF 1 F__check_size (zCons (zCall dLen (zCons (zVar 1) zNil)) zNil)))
    (zSeq (zSet 2 (zCallF 1 F_masks_above (zCons (zVar 0) zNil)))
    (zSeq (zSet 3 (zCall dRange1 (zCons (zCall dLen (zCons (zVar 1) zNil)) zNil)))
    (zSeq (zSet 4 (zLc2K .frz [5, 6] [6] (zSrc (zVar 3)) (zgName 5) zYes (zSrc (zVar 3)) (zgName 6) (zTru (zOp dAnd (zOp dShr (zOp dIx (zVar 2) (zOp dIx (zVar 1) (zVar 5))) (zOp dIx (zVar 1) (zVar 6))) (zC (.int 1)))) (zTup (zCons (zVar 5) (zCons (zVar 6) zNil)))))
    (zRet (zTup (zCons (zCall dLen (zCons (zVar 1) zNil)) (zCons (zCall dTuple (zCons (zVar 4) zNil)) zNil))))))))
noncomputable def F_induced : List D → Sto → Rs D := Fof 0 N_induced run_induced
abbrev N_opposite : List Str := ["order"]
noncomputable def run_opposite : SM :=
    (zSeq (zExpr (zCallF 1 F__check_size (zCons (zOp dIx (zVar 0) (zC (.int 0))) zNil)))
    (zRet (zCallF 1 F_order_from (zCons (zCallF 1 F_masks_below (zCons (zVar 0) zNil)) zNil))))
noncomputable def F_opposite : List D → Sto → Rs D := Fof 0 N_opposite run_opposite
abbrev N__law_mix : List Str := ["cell", "salt", "one"]
noncomputable def run__law_mix : SM :=
    (zSeq (zSet 2 (zOp dMod (zCall dInt (zCons (zOp dAdd (zOp dAdd (zOp dMul (zVar 0) (zC (.int 48271))) (zOp dMul (zVar 1) (zC (.int 69621)))) (zC (.int 12345))) zNil)) (zC (.int 2147483647))))
    (zRet (zOp dMod (zCall dInt (zCons (zOp dAdd (zOp dAdd (zOp dMul (zVar 2) (zVar 2)) (zOp dMul (zVar 2) (zC (.int 16807)))) (zOp dMul (zVar 1) (zC (.int 7919)))) zNil)) (zC (.int 2147483629)))))
noncomputable def F__law_mix : List D → Sto → Rs D := Fof 0 N__law_mix run__law_mix
abbrev N__law_box : List Str := ["script", "cell"]
noncomputable def run__law_box : SM :=
    (zRet (zLstC (zCons (zC (.int 0)) (zCons (zC (.int 0)) (zCons (zC (.int 0)) (zCons (zC (.int 0)) (zCons (zC (.int 1)) (zCons (zLcK .frz [1] (zSrc (zVar 0)) (zgName 1) zYes (zCall dInt (zCons (zVar 1) zNil))) zNil))))))))
noncomputable def F__law_box : List D → Sto → Rs D := Fof 0 N__law_box run__law_box
abbrev N__law_draw : List Str := ["box", "many", "cell", "drawn"]
noncomputable def run__law_draw : SM :=
    (zSeq (zIfS (zAnd (zOr (zB (zOp dEq (zOp dIx (zVar 0) (zC (.int 0))) (zC (.int 0)))) (zB (zOp dEq (zOp dIx (zVar 0) (zC (.int 1))) (zC (.int 0))))) (zB (zOp dLt (zOp dIx (zVar 0) (zC (.int 2))) (zCall dLen (zCons (zOp dIx (zVar 0) (zC (.int 5))) zNil))))) (zSeq (zSet 2 (zOp dIx (zOp dIx (zVar 0) (zC (.int 5))) (zOp dIx (zVar 0) (zC (.int 2)))))
    (zSeq (zPut (zVar 0) (zC (.int 2)) (zOp dAdd (zOp dIx (zVar 0) (zC (.int 2))) (zC (.int 1))))
    (zSeq (zPut (zVar 0) (zC (.int 4)) (zOp dMod (zCall dInt (zCons (zOp dAdd (zOp dMul (zOp dIx (zVar 0) (zC (.int 4))) (zC (.int 31))) (zVar 2)) zNil)) (zC (.int 2147483647))))
    (zSeq (zPut (zVar 0) (zC (.int 0)) (zC (.int 0)))
    (zSeq (zPut (zVar 0) (zC (.int 1)) (zC (.int 60)))
    (zIfS (zB (zOp dEq (zOp dMod (zCall dInt (zCons (zVar 2) zNil)) (zC (.int 2))) (zC (.int 0)))) (zPut (zVar 0) (zC (.int 0)) (zOp dDiv (zCall dAbs (zCons (zVar 2) zNil)) (zC (.int 2)))) zNext)))))) zNext)
    (zSeq (zIfS (zAnd (zB (zOp dGt (zOp dIx (zVar 0) (zC (.int 0))) (zC (.int 0)))) (zB (zOp dGt (zOp dIx (zVar 0) (zC (.int 1))) (zC (.int 0))))) (zSeq (zSet 3 (zOp dMod (zCall dInt (zCons (zOp dIx (zVar 0) (zC (.int 0))) zNil)) (zVar 1)))
    (zSeq (zPut (zVar 0) (zC (.int 0)) (zOp dDiv (zOp dIx (zVar 0) (zC (.int 0))) (zVar 1)))
    (zSeq (zPut (zVar 0) (zC (.int 1)) (zOp dSub (zOp dIx (zVar 0) (zC (.int 1))) (zC (.int 1))))
    (zRet (zVar 3))))) zNext)
    (zSeq (zPut (zVar 0) (zC (.int 3)) (zOp dAdd (zOp dIx (zVar 0) (zC (.int 3))) (zC (.int 1))))
    (zRet (zOp dMod (zCall dInt (zCons (zCallF 2 F__law_mix (zCons (zOp dIx (zVar 0) (zC (.int 4))) (zCons (zOp dIx (zVar 0) (zC (.int 3))) zNil))) zNil)) (zVar 1))))))
noncomputable def F__law_draw : List D → Sto → Rs D := Fof 0 N__law_draw run__law_draw
abbrev N__law_alike : List Str := ["told", "due", "k"]
noncomputable def run__law_alike (F__law_alike : List D → Sto → Rs D) : SM :=
    (zSeq (zIfS (zTru (zIsi ["tuple", "list"] (zVar 1))) (zSeq (zIfS (zOr (zB (zOp dNe (zIsi ["tuple"] (zVar 0)) (zIsi ["tuple"] (zVar 1)))) (zB (zOp dNe (zIsi ["list"] (zVar 0)) (zIsi ["list"] (zVar 1))))) (zRet (zC (.bl false))) zNext)
    (zSeq (zIfS (zB (zOp dNe (zCall dLen (zCons (zVar 0) zNil)) (zCall dLen (zCons (zVar 1) zNil)))) (zRet (zC (.bl false))) zNext)
    (zSeq (zFor (zRange1 (zCons (zCall dLen (zCons (zVar 1) zNil)) zNil)) (zgName 2) (zIfS (zNot (zTru (zCallF 2 F__law_alike (zCons (zOp dIx (zVar 0) (zVar 2)) (zCons (zOp dIx (zVar 1) (zVar 2)) zNil))))) (zRet (zC (.bl false))) zNext))
    (zRet (zC (.bl true)))))) zNext)
    (zSeq (zIfS (zB (zOp dIsN (zVar 1) (zC .non))) (zRet (zOp dIsN (zVar 0) (zC .non))) zNext)
    (zSeq (zIfS (zTru (zIsi ["bool"] (zVar 1))) (zRet (zAndV (zIsi ["bool"] (zVar 0)) (zOp dEq (zVar 0) (zVar 1)))) zNext)
    (zSeq (zIfS (zTru (zIsi ["str"] (zVar 1))) (zRet (zAndV (zIsi ["str"] (zVar 0)) (zOp dEq (zVar 0) (zVar 1)))) zNext)
    (zRet (zAndV (zIsi ["int"] (zVar 0)) (zAndV (zNotV (zIsi ["bool"] (zVar 0))) (zOp dEq (zVar 0) (zVar 1)))))))))
noncomputable def F__law_alike : Nat → List D → Sto → Rs D
  | 0 => fun _ _ => .stk
  | k + 1 => Fof 0 N__law_alike (run__law_alike (F__law_alike k))
abbrev N__law_line : List Str := ["box", "n", "left", "k"]
noncomputable def run__law_line : SM :=
    (zSeq (zSet 2 (zLcK .cel [3] (zRange1 (zCons (zVar 1) zNil)) (zgName 3) zYes (zVar 3)))
    (zRet (zLcK .frz [3] (zRange1 (zCons (zVar 1) zNil)) (zgName 3) zYes (zMethL dPopAt (zVar 2) (zCons (zCallF 2 F__law_draw (zCons (zVar 0) (zCons (zCall dLen (zCons (zVar 2) zNil)) zNil))) zNil)))))
noncomputable def F__law_line : List D → Sto → Rs D := Fof 0 N__law_line run__law_line
abbrev N__law_size : List Str := ["box", "kind"]
noncomputable def run__law_size : SM :=
    (zSeq (zSet 1 (zCallF 2 F__law_draw (zCons (zVar 0) (zCons (zC (.int 16)) zNil))))
    (zSeq (zIfS (zB (zOp dLt (zVar 1) (zC (.int 9)))) (zRet (zCallF 2 F__law_draw (zCons (zVar 0) (zCons (zOp dIx (zLst (zCons (zC (.int 4)) (zCons (zC (.int 7)) (zCons (zC (.int 9)) zNil)))) (zOp dMod (zCall dInt (zCons (zVar 1) zNil)) (zC (.int 3)))) zNil)))) zNext)
    (zSeq (zIfS (zB (zOp dLt (zVar 1) (zC (.int 14)))) (zRet (zOp dAdd (zC (.int 4)) (zCallF 2 F__law_draw (zCons (zVar 0) (zCons (zC (.int 11)) zNil))))) zNext)
    (zRet (zOp dIx (zLst (zCons (zOp dAdd (zC (.int 15)) (zCallF 2 F__law_draw (zCons (zVar 0) (zCons (zC (.int 50)) zNil)))) (zCons (zC (.int 64)) zNil))) (zOp dMod (zCall dInt (zCons (zVar 1) zNil)) (zC (.int 2))))))))
noncomputable def F__law_size : List D → Sto → Rs D := Fof 0 N__law_size run__law_size
abbrev N__law_linked : List Str := ["box", "line", "kind", "half", "links", "k", "places", "j", "turn"]
noncomputable def run__law_linked : SM :=
    (zSeq (zSet 2 (zCallF 2 F__law_draw (zCons (zVar 0) (zCons (zC (.int 6)) zNil))))
    (zSeq (zSet 3 (zOp dDiv (zCall dLen (zCons (zVar 1) zNil)) (zC (.int 2))))
    (zSeq (zSet 4 (zLst zNil))
    (zSeq (zFor (zRange2 (zCons (zC (.int 1)) (zCons (zCall dLen (zCons (zVar 1) zNil)) zNil))) (zgName 5) (zSeq (zSet 6 (zLst zNil))
    (zSeq (zIfS (zAnd (zB (zOp dLt (zVar 2) (zC (.int 2)))) (zB (zOp dLt (zCall dLen (zCons (zVar 1) zNil)) (zC (.int 10))))) (zSet 6 (zLcK .frz [7] (zRange1 (zCons (zVar 5) zNil)) (zgName 7) (zB (zOp dEq (zCallF 2 F__law_draw (zCons (zVar 0) (zCons (zC (.int 2)) zNil))) (zC (.int 0)))) (zVar 7))) (zIfS (zAnd (zB (zOp dLt (zVar 2) (zC (.int 2)))) (zB (zOp dLt (zCall dLen (zCons (zVar 1) zNil)) (zC (.int 33))))) (zSet 6 (zLcK .frz [7] (zRange1 (zCons (zOp dMul (zVar 3) (zCall dInt (zCons (zOp dGe (zVar 5) (zVar 3)) zNil))) zNil)) (zgName 7) (zB (zOp dEq (zCallF 2 F__law_draw (zCons (zVar 0) (zCons (zC (.int 2)) zNil))) (zC (.int 0)))) (zVar 7))) (zIfS (zB (zOp dLt (zVar 2) (zC (.int 3)))) (zSet 6 (zLcK .frz [8] (zRange1 (zCons (zCallF 2 F__law_draw (zCons (zVar 0) (zCons (zC (.int 4)) zNil))) zNil)) (zgName 8) zYes (zCallF 2 F__law_draw (zCons (zVar 0) (zCons (zVar 5) zNil))))) (zIfS (zB (zOp dEq (zVar 2) (zC (.int 3)))) (zSet 6 (zLst (zCons (zCallF 2 F__law_draw (zCons (zVar 0) (zCons (zVar 5) zNil))) zNil))) (zIfS (zAnd (zB (zOp dEq (zVar 2) (zC (.int 4)))) (zB (zOp dGt (zCallF 2 F__law_draw (zCons (zVar 0) (zCons (zC (.int 3)) zNil))) (zC (.int 0))))) (zSet 6 (zLcK .frz [8] (zRange1 (zCons (zC (.int 2)) zNil)) (zgName 8) zYes (zOp dSub (zOp dSub (zVar 5) (zC (.int 1))) (zCallF 2 F__law_draw (zCons (zVar 0) (zCons (zCall dMin2 (zCons (zVar 5) (zCons (zC (.int 3)) zNil))) zNil)))))) (zIfS (zAnd (zB (zOp dEq (zVar 2) (zC (.int 5)))) (zB (zOp dGt (zCallF 2 F__law_draw (zCons (zVar 0) (zCons (zC (.int 12)) zNil))) (zC (.int 0))))) (zSet 6 (zLst (zCons (zOp dSub (zVar 5) (zC (.int 1))) zNil))) zNext))))))
    (zSet 4 (zOp dAdd (zVar 4) (zLcK .frz [7] (zSrc (zVar 6)) (zgName 7) zYes (zTup (zCons (zOp dIx (zVar 1) (zVar 7)) (zCons (zOp dIx (zVar 1) (zVar 5)) zNil)))))))))
    (zRet (zVar 4))))))
noncomputable def F__law_linked : List D → Sto → Rs D := Fof 0 N__law_linked run__law_linked
abbrev N__law_lower : List Str := ["line", "links", "n", "lower", "ahead", "y", "x", "z"]
noncomputable def run__law_lower : SM :=
    (zSeq (zSet 2 (zCall dLen (zCons (zVar 0) zNil)))
    (zSeq (zSet 3 (zLcK .cel [5] (zRange1 (zCons (zVar 2) zNil)) (zgName 5) zYes (zLcK .cel [6] (zRange1 (zCons (zVar 2) zNil)) (zgName 6) zYes (zC (.bl false)))))
    (zSeq (zSet 4 (zLcK .cel [5] (zRange1 (zCons (zVar 2) zNil)) (zgName 5) zYes (zLstC zNil)))
    (zSeq (zFor (zSrc (zVar 1)) (zgTup 2 (zgCons (zgName 6) (zgCons (zgName 5) zgNil))) (zExpr (zMethL dAppend (zOp dIx (zVar 4) (zVar 5)) (zCons (zVar 6) zNil))))
    (zSeq (zFor (zSrc (zVar 0)) (zgName 5) (zFor (zSrc (zOp dIx (zVar 4) (zVar 5))) (zgName 6) (zIfS (zB (zOp dEq (zCall dLen (zCons (zOp dIx (zVar 4) (zVar 6)) zNil)) (zC (.int 0)))) (zPut (zOp dIx (zVar 3) (zVar 5)) (zVar 6) (zC (.bl true))) (zIfS (zNot (zTru (zOp dIx (zOp dIx (zVar 3) (zVar 5)) (zVar 6)))) (zPut (zVar 3) (zVar 5) (zLcK .cel [7] (zRange1 (zCons (zVar 2) zNil)) (zgName 7) zYes (zOrV (zOp dIx (zOp dIx (zVar 3) (zVar 5)) (zVar 7)) (zOrV (zOp dIx (zOp dIx (zVar 3) (zVar 6)) (zVar 7)) (zOp dEq (zVar 7) (zVar 6)))))) zNext))))
    (zRet (zVar 3)))))))
noncomputable def F__law_lower : List D → Sto → Rs D := Fof 2 N__law_lower run__law_lower
abbrev N__law_pairs : List Str := ["lower", "found", "x", "y"]
noncomputable def run__law_pairs : SM :=
    (zSeq (zSet 1 (zLst zNil))
    (zSeq (zFor (zRange1 (zCons (zCall dLen (zCons (zVar 0) zNil)) zNil)) (zgName 2) (zSet 1 (zOp dAdd (zVar 1) (zLcK .frz [3] (zRange1 (zCons (zCall dLen (zCons (zVar 0) zNil)) zNil)) (zgName 3) (zTru (zOp dIx (zOp dIx (zVar 0) (zVar 3)) (zVar 2))) (zTup (zCons (zVar 2) (zCons (zVar 3) zNil)))))))
    (zRet (zCall dTuple (zCons (zVar 1) zNil)))))
noncomputable def F__law_pairs : List D → Sto → Rs D := Fof 0 N__law_pairs run__law_pairs
abbrev N__law_chosen : List Str := ["box", "points", "share", "is_few", "x"]
noncomputable def run__law_chosen : SM :=
    (zSeq (zSet 2 (zOp dIx (zLst (zCons (zC (.int 2)) (zCons (zC (.int 4)) (zCons (zC (.int 4)) zNil)))) (zCallF 2 F__law_draw (zCons (zVar 0) (zCons (zC (.int 3)) zNil)))))
    (zSeq (zSet 3 (zOp dEq (zCallF 2 F__law_draw (zCons (zVar 0) (zCons (zC (.int 2)) zNil))) (zC (.int 0))))
    (zRet (zLcK .frz [4] (zSrc (zVar 1)) (zgName 4) (zB (zOp dEq (zOp dEq (zCallF 2 F__law_draw (zCons (zVar 0) (zCons (zVar 2) zNil))) (zC (.int 0))) (zVar 3))) (zVar 4)))))
noncomputable def F__law_chosen : List D → Sto → Rs D := Fof 0 N__law_chosen run__law_chosen
abbrev N__law_due : List Str := ["lower", "points", "found", "i", "j"]
noncomputable def run__law_due : SM :=
    (zSeq (zSet 2 (zLst zNil))
    (zSeq (zFor (zRange1 (zCons (zCall dLen (zCons (zVar 1) zNil)) zNil)) (zgName 3) (zSet 2 (zOp dAdd (zVar 2) (zLcK .frz [4] (zRange1 (zCons (zCall dLen (zCons (zVar 1) zNil)) zNil)) (zgName 4) (zTru (zOp dIx (zOp dIx (zVar 0) (zOp dIx (zVar 1) (zVar 4))) (zOp dIx (zVar 1) (zVar 3)))) (zTup (zCons (zVar 3) (zCons (zVar 4) zNil)))))))
    (zRet (zTup (zCons (zCall dLen (zCons (zVar 1) zNil)) (zCons (zCall dTuple (zCons (zVar 2) zNil)) zNil))))))
noncomputable def F__law_due : List D → Sto → Rs D := Fof 0 N__law_due run__law_due
abbrev N__law_turned : List Str := ["order", "x", "y"]
noncomputable def run__law_turned : SM :=
    (zRet (zTup (zCons (zOp dIx (zVar 0) (zC (.int 0))) (zCons (zCall dTuple (zCons (zCall dSorted (zCons (zLcK .frz [1, 2] (zSrc (zOp dIx (zVar 0) (zC (.int 1)))) (zgTup 2 (zgCons (zgName 1) (zgCons (zgName 2) zgNil))) zYes (zTup (zCons (zVar 2) (zCons (zVar 1) zNil)))) zNil)) zNil)) zNil))))
noncomputable def F__law_turned : List D → Sto → Rs D := Fof 0 N__law_turned run__law_turned
abbrev N__law_part : List Str := ["box", "order", "lower", "points", "due", "told", "places", "left", "i"]
noncomputable def run__law_part : SM :=
    (zSeq (zSet 4 (zCallF 2 F__law_due (zCons (zVar 2) (zCons (zVar 3) zNil))))
    (zSeq (zSet 5 (zCallF 2 F_induced (zCons (zVar 1) (zCons (zCall dTuple (zCons (zVar 3) zNil)) zNil))))
    (zSeq (zIfS (zOr (zNot (zTru (zCallF 2 (F__law_alike 8) (zCons (zVar 5) (zCons (zVar 4) zNil))))) (zNot (zTru (zCallF 2 (F__law_alike 8) (zCons (zCallF 1 F_opposite (zCons (zVar 5) zNil)) (zCons (zCallF 1 F__law_turned (zCons (zVar 4) zNil)) zNil)))))) (zRet (zC (.bl false))) zNext)
    (zSeq (zIfS (zNot (zTru (zCallF 2 (F__law_alike 8) (zCons (zCallF 2 F_induced (zCons (zCallF 1 F__law_turned (zCons (zVar 1) zNil)) (zCons (zCall dTuple (zCons (zVar 3) zNil)) zNil))) (zCons (zCallF 1 F__law_turned (zCons (zVar 4) zNil)) zNil))))) (zRet (zC (.bl false))) zNext)
    (zSeq (zSet 6 (zCallF 2 F__law_chosen (zCons (zVar 0) (zCons (zLcK .frz [8] (zRange1 (zCons (zCall dLen (zCons (zVar 3) zNil)) zNil)) (zgName 8) zYes (zVar 8)) zNil))))
    (zSeq (zSet 7 (zLcK .frz [8] (zSrc (zVar 6)) (zgName 8) zYes (zOp dIx (zVar 3) (zVar 8))))
    (zRet (zCallF 2 (F__law_alike 8) (zCons (zCallK 2 F_induced [1, 0] zNil (zCons (zCall dTuple (zCons (zVar 6) zNil)) (zCons (zVar 4) zNil))) (zCons (zCallF 2 F__law_due (zCons (zVar 2) (zCons (zVar 7) zNil))) zNil))))))))))
noncomputable def F__law_part : List D → Sto → Rs D := Fof 0 N__law_part run__law_part
abbrev N_law : List Str := ["script", "box", "line", "n", "lower", "order", "points", "other", "turn", "x"]
noncomputable def run_law : SM :=
    (zSeq (zSet 1 (zCallF 1 F__law_box (zCons (zVar 0) zNil)))
    (zSeq (zSet 2 (zCallF 2 F__law_line (zCons (zVar 1) (zCons (zCallF 1 F__law_size (zCons (zVar 1) zNil)) zNil))))
    (zSeq (zSet 3 (zCall dLen (zCons (zVar 2) zNil)))
    (zSeq (zSet 4 (zCallF 2 F__law_lower (zCons (zVar 2) (zCons (zCallF 2 F__law_linked (zCons (zVar 1) (zCons (zVar 2) zNil))) zNil))))
    (zSeq (zSet 5 (zTup (zCons (zVar 3) (zCons (zCallF 1 F__law_pairs (zCons (zVar 4) zNil)) zNil))))
    (zSeq (zSet 6 (zLcK .frz [9] (zRange1 (zCons (zVar 3) zNil)) (zgName 9) zYes (zVar 9)))
    (zSeq (zSet 7 (zCallF 1 F__law_turned (zCons (zVar 5) zNil)))
    (zSeq (zIfS (zNot (zTru (zCallF 2 (F__law_alike 8) (zCons (zLst (zCons (zCallF 1 F_opposite (zCons (zVar 5) zNil)) (zCons (zCallK 1 F_opposite [0] zNil (zCons (zVar 7) zNil)) zNil))) (zCons (zLst (zCons (zVar 7) (zCons (zVar 5) zNil))) zNil))))) (zRet (zC (.bl false))) zNext)
    (zSeq (zIfS (zNot (zTru (zCallF 2 (F__law_alike 8) (zCons (zLst (zCons (zCallF 2 F_induced (zCons (zVar 5) (zCons (zCall dTuple (zCons (zVar 6) zNil)) zNil))) (zCons (zCallK 2 F_induced [1, 0] zNil (zCons (zTup zNil) (zCons (zVar 5) zNil))) zNil))) (zCons (zLst (zCons (zVar 5) (zCons (zTup (zCons (zC (.int 0)) (zCons (zTup zNil) zNil))) zNil))) zNil))))) (zRet (zC (.bl false))) zNext)
    (zSeq (zFor (zRange1 (zCons (zOp dIx (zLst (zCons (zC (.int 6)) (zCons (zC (.int 2)) zNil))) (zCall dInt (zCons (zOp dGt (zVar 3) (zC (.int 14))) zNil))) zNil)) (zgName 8) (zIfS (zNot (zTru (zCallF 4 F__law_part (zCons (zVar 1) (zCons (zVar 5) (zCons (zVar 4) (zCons (zCallF 2 F__law_chosen (zCons (zVar 1) (zCons (zVar 6) zNil))) zNil))))))) (zRet (zC (.bl false))) zNext))
    (zSeq (zFor (zSrc (zSl (zVar 6) zNoPart (zPart (zC (.int 3))))) (zgName 9) (zIfS (zNot (zTru (zCallF 2 (F__law_alike 8) (zCons (zCallF 2 F_induced (zCons (zVar 5) (zCons (zTup (zCons (zVar 9) zNil)) zNil))) (zCons (zTup (zCons (zC (.int 1)) (zCons (zTup zNil) zNil))) zNil))))) (zRet (zC (.bl false))) zNext))
    (zRet (zCallF 2 (F__law_alike 8) (zCons (zCallF 1 F_opposite (zCons (zVar 5) zNil)) (zCons (zVar 7) zNil)))))))))))))))
noncomputable def F_law : List D → Sto → Rs D := Fof 0 N_law run_law
end K06

namespace K06
open PySem L2 Z
open PySem.Spec PyProof.Rows
variable [Tabs]

theorem eval_lowest {m : Nat} (hm : 0 < m) (S : Sto) : ∃ k, m.testBit k = true ∧ (∀ i, i < k → m.testBit i = false) ∧ F_lowest_bit [.int m] S = .ok (.int k) S := by
  obtain ⟨k, h1, h2, h3⟩ := low_int hm
  refine ⟨k, h1, h2, Fof_ret0 ?_ ?_⟩
  · simp [run_lowest_bit, h3, bits_powI]
  · trivial
theorem eval_bits {m : Nat} (hm : m < 2 ^ 64) (S : Sto) : F_bits_of [.int m] S = .ok (.lst ((bitsN 64 m).map dN)) S := by
  have loop : ∀ (l : List Nat) (fu m : Nat) (acc : List D) (x : Option D), m < 2 ^ 64 → bitsN 64 m = l → l.length < fu → acc.length + l.length ≤ 64 →
      ∃ y, whileN (zTru (zVar 0)) (zSeq (zSet 2 (zCallF 1 F_lowest_bit (zCons (zVar 0) zNil))) (zSeq (zExpr (zMethL dAppend (zVar 1) (zCons (zVar 2) zNil))) (zAug 0 dXor (zOp dShl (zC (.int 1)) (zVar 2))))) fu [some (.int m), some (.ptr S.length), x] (S ++ [.lst acc]) = .mk (.next [some (.int 0), some (.ptr S.length), y]) (S ++ [.lst (acc ++ l.map dN)]) := by
    intro l
    induction l with
    | nil =>
      intro fu m acc x hm hl hf _
      have := bitsN_zero hm hl
      subst this
      cases fu with
      | zero => simp at hf
      | succ fu => exact ⟨x, by simp [whileN]⟩
    | cons k l ih =>
      intro fu m acc x hm hl hf hb
      have h0 : 0 < m := by
        rcases Nat.eq_zero_or_pos m with e | e
        · have q : bitsN 64 0 = [] := List.filter_eq_nil_iff.mpr (by simp)
          rw [e, q] at hl; cases hl
        · exact e
      cases fu with
      | zero => simp at hf
      | succ fu =>
        obtain ⟨k', h1, h2, h3⟩ := eval_lowest h0 (S ++ [.lst acc])
        have h4 := bitsN_step hm h1 h2
        rw [hl] at h4
        obtain ⟨e1, e2⟩ := List.cons.inj h4
        subst e1
        have hk : k < 64 := (mem_bitsN.mp (by rw [hl]; exact List.mem_cons_self : k ∈ bitsN 64 m)).1
        obtain ⟨y, hy⟩ := ih fu (m - 2 ^ k) (acc ++ [dN k]) (some (.int k)) (Nat.lt_of_le_of_lt (Nat.sub_le _ _) hm) e2.symm (by simpa using hf) (by simp at hb ⊢; omega)
        refine ⟨y, ?_⟩
        have hx := bXor_bit h1
        have hne : ((m : Int) != 0) = true := by simp; omega
        have hbig : acc.length < bigN := by simp at hb; unfold bigN; omega
        rw [whileN]
        simp [hne, h3, hbig, show (k : Int) ≤ 1000000 by omega]
        rw [bXor_bitI h1]
        rw [List.append_assoc] at hy
        exact hy
  have hl : (bitsN 64 m).length ≤ 64 := by
    have := List.length_filter_le (fun i => m.testBit i) (List.range 64)
    simpa [bitsN] using this
  obtain ⟨y, hy⟩ := loop (bitsN 64 m) 100000 m [] none hm rfl (by omega) (by simpa using hl)
  refine Fof_pure (L := [.lst ((bitsN 64 m).map dN)]) (d := .ptr S.length) ?_ frz_one (cls_all fun d hd => ?_)
  · simp [run_bits_of, zWhile, hy]
  · obtain ⟨k, _, e⟩ := List.mem_map.mp hd
    subst e
    trivial
theorem loop_above {n : Nat} (xs : List D) (o nn pp : Option D) (S : Sto) : ∀ (P : List (Nat × Nat)) (u : Nat → Nat) (a b : Option D), (∀ p ∈ P, p.1 < n ∧ p.2 < 64) →
    ∃ a' b', forL ⟨xs, none⟩ (zgTup 2 (zgCons (zgName 4) (zgCons (zgName 5) zgNil))) (zAugS (zVar 1) (zVar 4) dOr (zOp dShl (zC (.int 1)) (zVar 5))) (P.map pD) [o, some (.ptr S.length), nn, pp, a, b] (S ++ [.lst (tab n u)])
      = .mk (.next [o, some (.ptr S.length), nn, pp, a', b']) (S ++ [.lst (tab n (upF P u))])
  | [], u, a, b, _ => ⟨a, b, by simp [forL, upF]⟩
  | p :: P, u, a, b, h => by
    obtain ⟨h1, h2⟩ := h p List.mem_cons_self
    obtain ⟨a', b', e⟩ := loop_above xs o nn pp S P (fun i => if i = p.1 then u p.1 ||| 2 ^ p.2 else u i) (some (dN p.1)) (some (dN p.2)) fun q hq => h q (List.mem_cons_of_mem _ hq)
    refine ⟨a', b', ?_⟩
    rw [List.map_cons, forL]
    have e1 : L2.atI (tab n u) (p.1 : Int) = some (dN (u p.1)) := atI_nat (tab_get u h1)
    have e2 : ixN n (p.1 : Int) = some p.1 := ixNn h1
    have e3 : Builtin.bitOr (u p.1 : Int) ((2 : Int) ^ p.2) = ((u p.1 ||| 2 ^ p.2 : Nat) : Int) := by rw [← bOr_nat]; simp
    have e4 : (tab n u).set p.1 (.int ((u p.1 ||| 2 ^ p.2 : Nat) : Int)) = tab n (fun i => if i = p.1 then u p.1 ||| 2 ^ p.2 else u i) := tab_set u _
    simp only [dN] at e1 e
    simp [pD, dN, e1, e2, e3, show (p.2 : Int) ≤ 1000000 by omega]
    rw [e4]
    exact e
theorem eval_above {n : Nat} {P : List (Nat × Nat)} (hn : n ≤ 64) (h : ∀ p ∈ P, p.1 < n ∧ p.2 < 64) (S : Sto) : F_masks_above [ordD n P] S = .ok (.lst (tab n (upF P fun _ => 0))) S := by
  obtain ⟨a, b, e⟩ := loop_above (P.map pD) (some (ordD n P)) (some (dN n)) (some (.tup (P.map pD))) S P (fun _ => 0) none none h
  refine Fof_pure (L := [.lst (tab n (upF P fun _ => 0))]) (d := .ptr S.length) ?_ frz_one (cls_map (fun k => clN _ _) _)
  have e0 : (List.replicate n [D.int 0]).flatten = tab n fun _ => 0 := by
    unfold tab
    refine List.ext_getElem (by simp) ?_
    intro i h1 h2
    simp [dN]
  simp [run_masks_above, ordD, dN, zFor, zSrc, srcOf, dMulC, bigN, show (n : Int) ≤ 1000000 by omega, show -1000000 ≤ (n : Int) by omega, show n ≤ 1000000 by omega, e0]
  simp [ordD, dN] at e
  simp [e]
theorem loop_below {n : Nat} (xs : List D) (o nn pp : Option D) (S : Sto) : ∀ (P : List (Nat × Nat)) (u : Nat → Nat) (a b : Option D), (∀ p ∈ P, p.1 < 64 ∧ p.2 < n) →
    ∃ a' b', forL ⟨xs, none⟩ (zgTup 2 (zgCons (zgName 4) (zgCons (zgName 5) zgNil))) (zAugS (zVar 1) (zVar 5) dOr (zOp dShl (zC (.int 1)) (zVar 4))) (P.map pD) [o, some (.ptr S.length), nn, pp, a, b] (S ++ [.lst (tab n u)])
      = .mk (.next [o, some (.ptr S.length), nn, pp, a', b']) (S ++ [.lst (tab n (upF (P.map fun p => (p.2, p.1)) u))])
  | [], u, a, b, _ => ⟨a, b, by simp [forL, upF]⟩
  | p :: P, u, a, b, h => by
    obtain ⟨h2, h1⟩ := h p List.mem_cons_self
    obtain ⟨a', b', e⟩ := loop_below xs o nn pp S P (fun i => if i = p.2 then u p.2 ||| 2 ^ p.1 else u i) (some (dN p.1)) (some (dN p.2)) fun q hq => h q (List.mem_cons_of_mem _ hq)
    refine ⟨a', b', ?_⟩
    rw [List.map_cons, forL]
    have e1 : L2.atI (tab n u) (p.2 : Int) = some (dN (u p.2)) := atI_nat (tab_get u h1)
    have e2 : ixN n (p.2 : Int) = some p.2 := ixNn h1
    have e3 : Builtin.bitOr (u p.2 : Int) ((2 : Int) ^ p.1) = ((u p.2 ||| 2 ^ p.1 : Nat) : Int) := by rw [← bOr_nat]; simp
    have e4 : (tab n u).set p.2 (.int ((u p.2 ||| 2 ^ p.1 : Nat) : Int)) = tab n (fun i => if i = p.2 then u p.2 ||| 2 ^ p.1 else u i) := tab_set u _
    simp only [dN] at e1 e
    simp [pD, dN, e1, e2, e3, show (p.1 : Int) ≤ 1000000 by omega]
    rw [e4]
    exact e
theorem eval_below {n : Nat} {P : List (Nat × Nat)} (hn : n ≤ 64) (h : ∀ p ∈ P, p.1 < 64 ∧ p.2 < n) (S : Sto) : F_masks_below [ordD n P] S = .ok (.lst (tab n (upF (P.map fun p => (p.2, p.1)) fun _ => 0))) S := by
  obtain ⟨a, b, e⟩ := loop_below (P.map pD) (some (ordD n P)) (some (dN n)) (some (.tup (P.map pD))) S P (fun _ => 0) none none h
  refine Fof_pure (L := [.lst (tab n (upF (P.map fun p => (p.2, p.1)) fun _ => 0))]) (d := .ptr S.length) ?_ frz_one (cls_map (fun k => clN _ _) _)
  have e0 : (List.replicate n [D.int 0]).flatten = tab n fun _ => 0 := by
    unfold tab
    refine List.ext_getElem (by simp) ?_
    intro i h1 h2
    simp [dN]
  simp [run_masks_below, ordD, dN, zFor, zSrc, srcOf, dMulC, bigN, show (n : Int) ≤ 1000000 by omega, show -1000000 ≤ (n : Int) by omega, show n ≤ 1000000 by omega, e0]
  simp [ordD, dN] at e
  simp [e]
theorem eval_size {n : Nat} (hn : n ≤ 64) (S : Sto) : F__check_size [.int n] S = .ok .non S := by
  refine Fof_next0 (env := [some (.int n)]) ?_
  simp [run__check_size, show ¬ (64 : Int) < n by omega]
theorem eval_induced {n : Nat} {P : List (Nat × Nat)} {l : List Nat} (hn : n ≤ 64) (h : ∀ p ∈ P, p.1 < n ∧ p.2 < n) (hl : ∀ x ∈ l, x < n) (hk : l.length ≤ 64) (S : Sto) :
    F_induced [ordD n P, .tup (l.map dN)] S = .ok (ordD l.length (canon l.length fun i j => decide ((ptAt l i, ptAt l j) ∈ P))) S := by
  refine Fof_ret0 ?_ (cl_ordD _ _ _)
  have h1 := eval_above hn (fun p hp => ⟨(h p hp).1, by have := (h p hp).2; omega⟩) S
  have e : lcB ⟨(List.range l.length).map dN, none⟩ (zgName 5) zYes (zSrc (zVar 3)) (zgName 6) (zTru (zOp dAnd (zOp dShr (zOp dIx (zVar 2) (zOp dIx (zVar 1) (zVar 5))) (zOp dIx (zVar 1) (zVar 6))) (zC (.int 1)))) (zTup (zCons (zVar 5) (zCons (zVar 6) zNil))) [6] [some (ordD n P), some (.tup (l.map dN)), some (.lst (tab n (upF P fun _ => 0))), some (.rng 0 (l.length : Nat)), none, none, none] ((List.range l.length).map dN) [] S
      = .ok ((canon l.length fun i j => decide ((ptAt l i, ptAt l j) ∈ P)).map pD) S := by
    rw [lcB_pure (c := 64) (w := fun i => ((List.range l.length).filter fun j => decide ((ptAt l i, ptAt l j) ∈ P)).map fun j => pD (i, j)) rfl (List.range l.length) [] (by simp [bigN]; omega) fun i hi => ?_]
    · simp [canon, List.map_flatMap, Function.comp_def]
    · have hi' := List.mem_range.mp hi
      refine ⟨_, rfl, rfl, ⟨(List.range l.length).map dN, none⟩, ?_, ?_, fun acc ha => ?_⟩
      · simp [zSrc, srcOf, show (l.length : Int) ≤ 1000000 by omega, show -1000000 ≤ (l.length : Int) by omega, rangeD_n]
      · rw [List.length_map]
        exact Nat.le_trans (List.length_filter_le _ _) (by simp; omega)
      · rw [lcA_pure (p := fun j => decide ((ptAt l i, ptAt l j) ∈ P)) (v := fun j => pD (i, j)) rfl _ acc (by simp; omega) fun j hj => ?_]
        have hj' : _ < _ := List.mem_range.mp hj
        refine ⟨_, rfl, ?_, fun _ => by simp [pD, bigN, wipeE, dN]⟩
        have a1 := ptAt_I hi'
        have a2 := ptAt_I hj'
        have a3 : L2.atI (tab n (upF P fun _ => 0)) (ptAt l i : Int) = some (dN (upF P (fun _ => 0) (ptAt l i))) := atI_nat (tab_get _ (hl _ (ptAt_mem hi')))
        have a4 := and_bit (upF P (fun _ => 0) (ptAt l i)) (ptAt l j)
        rw [upF_bit] at a4
        simp only [dN] at a1 a2 a3
        simp [wipeE, dN, a1, a2, a3]
        simpa using a4
  simp [run_induced, h1, eval_size hk, dRange1, zLc2K, zSrc, srcOf, show (l.length : Int) ≤ 1000000 by omega, show -1000000 ≤ (l.length : Int) by omega, rangeD_n]
  simp [wipeE, zSrc, srcOf] at e ⊢
  rw [e]
  simp [Mk.res, ordD, bigN, dN]
end K06

namespace K06
open PySem L2 Z
open PySem.Spec PyProof.Rows
variable [Tabs]

/-! ### drawing -/
def boxC (b0 b1 b2 b3 b4 : Int) (cs : List Int) : C := .lst [.int b0, .int b1, .int b2, .int b3, .int b4, .lst (cs.map D.int)]
def BoxOk (c : C) : Prop := ∃ b0 b1 b2 b3 b4 cs, 0 ≤ b2 ∧ c = boxC b0 b1 b2 b3 b4 cs
section
variable (a b c d e f : D)
@[simp] theorem bx0 : L2.atI [a, b, c, d, e, f] 0 = some a := rfl
@[simp] theorem bx1 : L2.atI [a, b, c, d, e, f] 1 = some b := rfl
@[simp] theorem bx2 : L2.atI [a, b, c, d, e, f] 2 = some c := rfl
@[simp] theorem bx3 : L2.atI [a, b, c, d, e, f] 3 = some d := rfl
@[simp] theorem bx4 : L2.atI [a, b, c, d, e, f] 4 = some e := rfl
@[simp] theorem bx5 : L2.atI [a, b, c, d, e, f] 5 = some f := rfl
@[simp] theorem ix0 : ixN 6 0 = some 0 := rfl
@[simp] theorem ix1 : ixN 6 1 = some 1 := rfl
@[simp] theorem ix2 : ixN 6 2 = some 2 := rfl
@[simp] theorem ix3 : ixN 6 3 = some 3 := rfl
@[simp] theorem ix4 : ixN 6 4 = some 4 := rfl
@[simp] theorem ix5 : ixN 6 5 = some 5 := rfl
end
/-! ### alike: of equal data -/
@[simp] theorem isiT : (["tuple", "list"].any (subT "tuple")) = true := by decide +kernel
@[simp] theorem isiL : (["tuple", "list"].any (subT "list")) = true := by decide +kernel
@[simp] theorem isiI : (["tuple", "list"].any (subT "int")) = false := by decide +kernel
@[simp] theorem isiB : (["tuple", "list"].any (subT "bool")) = false := by decide +kernel
@[simp] theorem isiN : (["tuple", "list"].any (subT "NoneType")) = false := by decide +kernel
@[simp] theorem isT1 : subT "tuple" "tuple" = true := by decide +kernel
@[simp] theorem isT2 : subT "list" "tuple" = false := by decide +kernel
@[simp] theorem isT3 : subT "tuple" "list" = false := by decide +kernel
@[simp] theorem isT4 : subT "list" "list" = true := by decide +kernel
@[simp] theorem isB1 : subT "int" "bool" = false := by decide +kernel
@[simp] theorem isB2 : subT "bool" "bool" = true := by decide +kernel
@[simp] theorem isS1 : subT "int" "str" = false := by decide +kernel
@[simp] theorem isI1 : subT "int" "int" = true := by decide +kernel
@[simp] theorem isX0 : subT "int" "tuple" = false := by decide +kernel
@[simp] theorem isX1 : subT "int" "list" = false := by decide +kernel
@[simp] theorem isX2 : subT "bool" "tuple" = false := by decide +kernel
@[simp] theorem isX3 : subT "bool" "list" = false := by decide +kernel
@[simp] theorem isX4 : subT "NoneType" "tuple" = false := by decide +kernel
@[simp] theorem isX5 : subT "NoneType" "list" = false := by decide +kernel
end K06

namespace K06
open PySem L2 Z
open PySem.Spec PyProof.Rows
variable [Tabs]

end K06

namespace K06
open PySem L2 Z
open PySem.Spec PyProof.Rows
variable [Tabs]
def pe (ib : Nat) (ln : List Nat) (kd : Nat) (lk : Option D) (k : Nat) (l : List Nat) : En := [some (.ptr ib), some (.lst (ln.map dN)), some (.int kd), some (.int ((ln.length : Int) / 2)), lk, some (dN k), some (.lst (l.map dN)), none, none]
def PlRes (S : Sto) (ib : Nat) (c : C) (ln : List Nat) (kd : Nat) (lk : Option D) (k : Nat) (m : SM) : Prop :=
  ∃ (l : List Nat) (c' : C), l.length ≤ 64 ∧ (∀ x ∈ l, x < k) ∧ BoxOk c' ∧ m (pe ib ln kd lk k []) (S.set ib c) = .mk (.next (pe ib ln kd lk k l)) (S.set ib c')
section
variable {S : Sto} {ib : Nat} {c : C} (hib : ib < S.length) (hc : BoxOk c) {ln : List Nat} {kd k : Nat} {lk : Option D} (hk : 0 < k) (hk2 : k < ln.length) (hl : ln.length ≤ 64) (hkd : kd < 6)
include hib hc hk hk2 hl hkd
omit hib hc hk hk2 hl hkd in
theorem PlRes.of {c1 : C} {a b : SM} {cc : EM Bool} (h : cc (pe ib ln kd lk k []) (S.set ib c) = .ok false (S.set ib c1)) (r : PlRes S ib c1 ln kd lk k b) : PlRes S ib c ln kd lk k (zIfS cc a b) := by
  obtain ⟨l, c', h1, h2, h3, h4⟩ := r
  exact ⟨l, c', h1, h2, h3, if_f h h4⟩
end
end K06

namespace K06
open PySem L2 Z
open PySem.Spec PyProof.Rows
variable [Tabs]

end K06

namespace K06
open PySem L2 Z
open PySem.Spec PyProof.Rows
variable [Tabs]

/-! ### the law's table -/
def Bef (ln : List Nat) (x y : Nat) : Prop := ∃ j k, j < k ∧ k < ln.length ∧ x = ptAt ln j ∧ y = ptAt ln k
theorem ptAt_inj {ln : List Nat} (hd : ln.Nodup) {j k : Nat} (hj : j < ln.length) (hk : k < ln.length) (e : ptAt ln j = ptAt ln k) : j = k := by
  have h1 := ptAt_get hj
  have h2 := ptAt_get hk
  rw [e, ← h2] at h1
  exact (List.getElem?_inj hj hd).mp h1
theorem Bef.trans {ln : List Nat} (hd : ln.Nodup) {x y z : Nat} (h : Bef ln x y) (h' : Bef ln y z) : Bef ln x z := by
  obtain ⟨j, k, h1, h2, rfl, rfl⟩ := h
  obtain ⟨j', k', h3, h4, e, rfl⟩ := h'
  have := ptAt_inj hd h2 (by omega) e
  exact ⟨j, k', by omega, h4, rfl, rfl⟩
theorem Bef.irr {ln : List Nat} (hd : ln.Nodup) {x : Nat} (h : Bef ln x x) : False := by
  obtain ⟨j, k, h1, h2, e1, e2⟩ := h
  have := ptAt_inj hd (by omega) h2 (e1.symm.trans e2)
  omega
def bools (n : Nat) (r : Nat → Nat → Bool) (y : Nat) : List D := (List.range n).map fun z => .bl (r y z)
@[simp] theorem bools_len (n : Nat) (r : Nat → Nat → Bool) (y : Nat) : (bools n r y).length = n := by simp [bools]
structure MS (S0 : Sto) (n : Nat) (r : Nat → Nat → Bool) (ah : Nat → List Nat) (row : Nat → Nat) (T : Sto) : Prop where
  pre : ∃ L, T = S0 ++ L
  out : T[S0.length + n]? = some (.lst ((List.range n).map fun y => .ptr (row y)))
  rws : ∀ y, y < n → T[row y]? = some (.lst (bools n r y))
  plc : ∀ y, y < n → S0.length ≤ row y ∧ (row y < S0.length + n ∨ S0.length + 2 * n + 2 ≤ row y)
  inj : ∀ y z, y < n → z < n → row y = row z → y = z
  aho : T[S0.length + 2 * n + 1]? = some (.lst ((List.range n).map fun y => .ptr (S0.length + n + 1 + y)))
  ahr : ∀ y, y < n → T[S0.length + n + 1 + y]? = some (.lst ((ah y).map dN))
theorem pre_set {S0 L : Sto} {q : Nat} (c : C) (h : S0.length ≤ q) : ∃ L', (S0 ++ L).set q c = S0 ++ L' := ⟨_, List.set_append_right _ _ h⟩
section
variable {S0 : Sto} {n : Nat} {r : Nat → Nat → Bool} {ah : Nat → List Nat} {row : Nat → Nat} {T : Sto}
theorem MS.lt (h : MS S0 n r ah row T) {y : Nat} (hy : y < n) : row y < T.length := (List.getElem?_eq_some_iff.mp (h.rws y hy)).1
theorem MS.put (h : MS S0 n r ah row T) {y x : Nat} (hy : y < n) (hx : x < n) : MS S0 n (fun i z => if i = y ∧ z = x then true else r i z) ah row (T.set (row y) (.lst ((bools n r y).set x (.bl true)))) := by
  obtain ⟨L, rfl⟩ := h.pre
  have hp := h.plc y hy
  refine ⟨pre_set _ hp.1, ?_, fun i hi => ?_, h.plc, h.inj, ?_, fun i hi => ?_⟩
  · rw [List.getElem?_set_ne (by omega)]; exact h.out
  · by_cases e : i = y
    · subst e
      rw [List.getElem?_set_self (h.lt hy)]
      unfold bools
      rw [set_fun]
      congr 2
      refine List.map_congr_left fun z _ => ?_
      by_cases e : z = x
      · simp [e]
      · simp [e]
    · rw [List.getElem?_set_ne (fun q => e (h.inj y i hy hi q).symm), h.rws i hi]
      unfold bools
      congr 2
      refine List.map_congr_left fun z _ => ?_
      simp [e]
  · rw [List.getElem?_set_ne (by omega)]; exact h.aho
  · rw [List.getElem?_set_ne (by omega)]; exact h.ahr i hi
theorem MS.app (h : MS S0 n r ah row T) {y x : Nat} (hy : y < n) : MS S0 n r (fun i => if i = y then ah y ++ [x] else ah i) row (T.set (S0.length + n + 1 + y) (.lst ((ah y).map dN ++ [dN x]))) := by
  obtain ⟨L, rfl⟩ := h.pre
  have hlt := (List.getElem?_eq_some_iff.mp (h.ahr y hy)).1
  refine ⟨pre_set _ (by omega), ?_, fun i hi => ?_, h.plc, h.inj, ?_, fun i hi => ?_⟩
  · rw [List.getElem?_set_ne (by omega)]; exact h.out
  · have := h.plc i hi
    rw [List.getElem?_set_ne (by omega)]; exact h.rws i hi
  · rw [List.getElem?_set_ne (by omega)]; exact h.aho
  · by_cases e : i = y
    · subst e
      rw [List.getElem?_set_self hlt, if_pos rfl]
      simp
    · rw [List.getElem?_set_ne (by omega), if_neg e]
      exact h.ahr i hi
theorem MS.new (h : MS S0 n r ah row T) {y : Nat} (hy : y < n) (f : Nat → Bool) : MS S0 n (fun i z => if i = y then f z else r i z) ah (fun i => if i = y then T.length else row i)
    ((T ++ [C.lst ((List.range n).map fun z => .bl (f z))]).set (S0.length + n) (.lst (((List.range n).map fun y => D.ptr (row y)).set y (.ptr T.length)))) := by
  obtain ⟨L, rfl⟩ := h.pre
  have ho := (List.getElem?_eq_some_iff.mp h.out).1
  have ha := (List.getElem?_eq_some_iff.mp h.aho).1
  have get : ∀ {q : Nat} {c : C}, q ≠ S0.length + n → (S0 ++ L)[q]? = some c → (((S0 ++ L) ++ [C.lst ((List.range n).map fun z => .bl (f z))]).set (S0.length + n) (.lst (((List.range n).map fun y => D.ptr (row y)).set y (.ptr (S0 ++ L).length))))[q]? = some c := fun {q c} hq hc => by
    rw [List.getElem?_set_ne (fun e => hq e.symm), List.getElem?_append_left (List.getElem?_eq_some_iff.mp hc).1]
    exact hc
  refine ⟨?_, ?_, fun i hi => ?_, fun i hi => ?_, fun i j hi hj e => ?_, ?_, fun i hi => ?_⟩
  · rw [List.append_assoc]
    exact pre_set _ (by omega)
  · rw [List.getElem?_set_self (by simp at ho ⊢; omega), set_fun]
    congr 2
    refine List.map_congr_left fun z _ => ?_
    by_cases e : z = y <;> simp [e]
  · by_cases e : i = y
    · subst e
      simp only [if_true]
      rw [List.getElem?_set_ne (by omega), List.getElem?_append_right (Nat.le_refl _)]
      simp [bools]
    · simp only [if_neg e]
      have := h.plc i hi
      exact (get (by omega) (h.rws i hi)).trans (by unfold bools; congr 2; refine List.map_congr_left fun z _ => ?_; simp [e])
  · by_cases e : i = y
    · simp only [if_pos e]; omega
    · simp only [if_neg e]; exact h.plc i hi
  · by_cases e1 : i = y
    · by_cases e2 : j = y
      · omega
      · simp only [if_pos e1, if_neg e2] at e
        have := h.lt hj
        omega
    · by_cases e2 : j = y
      · simp only [if_neg e1, if_pos e2] at e
        have := h.lt hi
        omega
      · simp only [if_neg e1, if_neg e2] at e
        exact h.inj i j hi hj e
  · exact get (by omega) h.aho
  · exact get (by omega) (h.ahr i hi)
end
theorem frz_rows {S0 : Sto} {b : Nat → List D} {row : Nat → Nat} {o : Nat} : ∀ (ys : List Nat) (L : Sto), ys.Nodup → (∀ y ∈ ys, (S0 ++ L)[row y]? = some (.lst (b y))) → (∀ y ∈ ys, S0.length ≤ row y ∧ row y ≠ o) → (∀ y ∈ ys, ∀ z ∈ ys, row y = row z → y = z) →
    ∃ L', frzs 1 (ys.map fun y => .ptr (row y)) (S0 ++ L) = some (ys.map fun y => .lst (b y), S0 ++ L') ∧ (S0 ++ L')[o]? = (S0 ++ L)[o]?
  | [], L, _, _, _, _ => ⟨L, by simp [frzs], rfl⟩
  | y :: ys, L, hn, hr, hp, hi => by
    obtain ⟨n1, n2⟩ := List.nodup_cons.mp hn
    obtain ⟨p1, p2⟩ := hp y List.mem_cons_self
    have h1 := hr y List.mem_cons_self
    obtain ⟨L1, e1⟩ := pre_set (S0 := S0) (L := L) .gone p1
    obtain ⟨L', e2, e3⟩ := frz_rows (S0 := S0) (b := b) (row := row) (o := o) ys L1 n2 (fun z hz => by
      rw [← e1, List.getElem?_set_ne (fun q => n1 (by rw [hi y List.mem_cons_self z (List.mem_cons_of_mem _ hz) q]; exact hz))]
      exact hr z (List.mem_cons_of_mem _ hz)) (fun z hz => hp z (List.mem_cons_of_mem _ hz)) fun z hz w hw => hi z (List.mem_cons_of_mem _ hz) w (List.mem_cons_of_mem _ hw)
    refine ⟨L', ?_, ?_⟩
    · rw [List.map_cons, frzs]
      have : frz 1 (.ptr (row y)) (S0 ++ L) = some (.lst (b y), S0 ++ L1) := by
        rw [frz, h1]
        simp only [frzs]
        rw [h1]
        simp only []
        rw [e1]
      simp only [this, e2]
      rfl
    · rw [e3, ← e1, List.getElem?_set_ne p2]
theorem MS.frz {S0 : Sto} {n : Nat} {r : Nat → Nat → Bool} {ah : Nat → List Nat} {row : Nat → Nat} {T : Sto} (h : MS S0 n r ah row T) : ∃ L', frz 2 (.ptr (S0.length + n)) T = some (.lst ((List.range n).map fun y => .lst (bools n r y)), S0 ++ L') := by
  obtain ⟨L, rfl⟩ := h.pre
  obtain ⟨L', e1, e2⟩ := frz_rows (S0 := S0) (b := bools n r) (row := row) (o := S0.length + n) (List.range n) L List.nodup_range (fun y hy => h.rws y (List.mem_range.mp hy)) (fun y hy => by
    have := h.plc y (List.mem_range.mp hy)
    omega) fun y hy z hz => h.inj y z (List.mem_range.mp hy) (List.mem_range.mp hz)
  rw [h.out] at e2
  obtain ⟨L2, e3⟩ := pre_set (S0 := S0) (L := L') (q := S0.length + n) .gone (by omega)
  refine ⟨L2, ?_⟩
  rw [Z.frz, h.out]
  simp only [e1]
  rw [e2]
  simp only []
  rw [e3]
end K06

namespace K06
open PySem L2 Z
open PySem.Spec PyProof.Rows
variable [Tabs]

def le (S0 : Sto) (n : Nat) (ln : List Nat) (lk : List (Nat × Nat)) (a b : Option D) : En := [some (.lst (ln.map dN)), some (.lst (lk.map pD)), some (dN n), some (.ptr (S0.length + n)), some (.ptr (S0.length + 2 * n + 1)), a, b, none]
section
variable {S0 : Sto} {n : Nat} {ln : List Nat} {lk : List (Nat × Nat)} (hn : n ≤ 64) (hd : ln.Nodup) (hln : ∀ x ∈ ln, x < n)
include hn hd hln
end
end K06

namespace K06
open PySem L2 Z
open PySem.Spec PyProof.Rows
variable [Tabs]

def pre (k : Nat) (q : Nat → Nat → Bool) (i : Nat) : List (Nat × Nat) := (List.range i).flatMap fun x => ((List.range k).filter fun y => q x y).map fun y => (x, y)
theorem canon_dec {n k : Nat} {q : Nat → Nat → Bool} {f g : Nat → Nat → Nat} (h : ∀ i j, i < k → j < k → f i j < n ∧ g i j < n) : canon k (fun i j => decide ((f i j, g i j) ∈ canon n q)) = canon k fun i j => q (f i j) (g i j) := by
  refine canon_congr fun x y hx hy => ?_
  obtain ⟨h1, h2⟩ := h x y hx hy
  rw [Bool.eq_iff_iff]
  simp only [decide_eq_true_eq]
  rw [mem_canon]
  exact ⟨fun h => h.2.2, fun h => ⟨h1, h2, h⟩⟩
theorem ind_canon {n : Nat} (hn : n ≤ 64) (q : Nat → Nat → Bool) {l : List Nat} (hl : ∀ x ∈ l, x < n) (hk : l.length ≤ 64) (S : Sto) : F_induced [ordD n (canon n q), .tup (l.map dN)] S = .ok (ordD l.length (canon l.length fun i j => q (ptAt l i) (ptAt l j))) S := by
  rw [eval_induced hn (fun p hp => by
    have := mem_canon.mp (show (p.1, p.2) ∈ canon n q from hp)
    exact ⟨this.1, this.2.1⟩) hl hk S, canon_dec (f := fun i j => ptAt l i) (g := fun i j => ptAt l j) fun i j hi hj => ⟨hl _ (ptAt_mem hi), hl _ (ptAt_mem hj)⟩]
abbrev relD (n : Nat) (q : Nat → Nat → Bool) : D := ordD n (canon n q)
end K06

namespace K07
open PySem L2 Z K06
open PySem.Spec PyProof.Rows
variable [Tabs]
abbrev N_with_selves : List Str := ["masks", "x", "mask"]
noncomputable def run_with_selves : SM :=
    (zRet (zLcK .frz [1, 2] (zEnum (zCons (zVar 0) zNil)) (zgTup 2 (zgCons (zgName 1) (zgCons (zgName 2) zgNil))) zYes (zOp dOr (zVar 2) (zOp dShl (zC (.int 1)) (zVar 1)))))
noncomputable def F_with_selves : List D → Sto → Rs D := Fof 0 N_with_selves run_with_selves
abbrev N__law_listed : List Str := ["size", "is_under", "found", "x", "y"]
noncomputable def run__law_listed : SM :=
    (zSeq (zSet 2 (zLst zNil))
    (zSeq (zFor (zRange1 (zCons (zVar 0) zNil)) (zgName 3) (zSet 2 (zOp dAdd (zVar 2) (zLcK .frz [4] (zRange1 (zCons (zVar 0) zNil)) (zgName 4) (zTru (zOp dIx (zOp dIx (zVar 1) (zVar 3)) (zVar 4))) (zTup (zCons (zVar 3) (zCons (zVar 4) zNil)))))))
    (zRet (zTup (zCons (zVar 0) (zCons (zCall dTuple (zCons (zVar 2) zNil)) zNil))))))
noncomputable def F__law_listed : List D → Sto → Rs D := Fof 0 N__law_listed run__law_listed
abbrev N__law_known : List Str := ["order", "n", "lower", "x", "y"]
noncomputable def run__law_known : SM :=
    (zSeq (zSet 1 (zOp dIx (zVar 0) (zC (.int 0))))
    (zSeq (zSet 2 (zLcK .cel [4] (zRange1 (zCons (zVar 1) zNil)) (zgName 4) zYes (zLcK .cel [3] (zRange1 (zCons (zVar 1) zNil)) (zgName 3) zYes (zC (.bl false)))))
    (zSeq (zFor (zSrc (zOp dIx (zVar 0) (zC (.int 1)))) (zgTup 2 (zgCons (zgName 3) (zgCons (zgName 4) zgNil))) (zPut (zOp dIx (zVar 2) (zVar 4)) (zVar 3) (zC (.bl true))))
    (zRet (zTup (zCons (zVar 0) (zCons (zVar 2) zNil)))))))
noncomputable def F__law_known : List D → Sto → Rs D := Fof 3 N__law_known run__law_known
abbrev N_product : List Str := ["first", "second", "n", "m", "left", "right", "rows", "pairs", "x", "q", "y", "r"]
noncomputable def run_product : SM :=
    (zSeq (zSet 2 (zOp dIx (zVar 0) (zC (.int 0))))
    (zSeq (zSet 3 (zOp dIx (zVar 1) (zC (.int 0))))
    (zSeq (zExpr (zCallF 1 F__check_size (zCons (zOp dMul (zVar 2) (zVar 3)) zNil)))
    (zSeq (zSet 4 (zCallF 1 F_with_selves (zCons (zCallF 1 F_masks_above (zCons (zVar 0) zNil)) zNil)))
    (zSeq (zSet 5 (zCallF 1 F_with_selves (zCons (zCallF 1 F_masks_above (zCons (zVar 1) zNil)) zNil)))
    (zSeq (zSet 6 (zLc2K .frz [8, 9] [9] (zRange1 (zCons (zVar 2) zNil)) (zgName 8) zYes (zRange1 (zCons (zVar 3) zNil)) (zgName 9) zYes (zTup (zCons (zVar 8) (zCons (zVar 9) zNil)))))
    (zSeq (zSet 7 (zLc2K .frz [8, 9, 10, 11] [10, 11] (zSrc (zVar 6)) (zgTup 2 (zgCons (zgName 8) (zgCons (zgName 9) zgNil))) zYes (zSrc (zVar 6)) (zgTup 2 (zgCons (zgName 10) (zgCons (zgName 11) zgNil))) (zAnd (zB (zOp dNe (zTup (zCons (zVar 8) (zCons (zVar 9) zNil))) (zTup (zCons (zVar 10) (zCons (zVar 11) zNil))))) (zAnd (zTru (zOp dAnd (zOp dShr (zOp dIx (zVar 4) (zVar 8)) (zVar 10)) (zC (.int 1)))) (zTru (zOp dAnd (zOp dShr (zOp dIx (zVar 5) (zVar 9)) (zVar 11)) (zC (.int 1)))))) (zTup (zCons (zOp dAdd (zOp dMul (zVar 8) (zVar 3)) (zVar 9)) (zCons (zOp dAdd (zOp dMul (zVar 10) (zVar 3)) (zVar 11)) zNil)))))
    (zRet (zTup (zCons (zOp dMul (zVar 2) (zVar 3)) (zCons (zCall dTuple (zCons (zVar 7) zNil)) zNil)))))))))))
noncomputable def F_product : List D → Sto → Rs D := Fof 0 N_product run_product
abbrev N__law_joined_up : List Str := ["first", "second", "is_on_top", "n", "size", "table", "x", "row", "y"]
noncomputable def run__law_joined_up : SM :=
    (zSeq (zSet 3 (zOp dIx (zOp dIx (zVar 0) (zC (.int 0))) (zC (.int 0))))
    (zSeq (zSet 4 (zOp dAdd (zVar 3) (zOp dIx (zOp dIx (zVar 1) (zC (.int 0))) (zC (.int 0)))))
    (zSeq (zSet 5 (zLstC zNil))
    (zSeq (zFor (zRange1 (zCons (zVar 4) zNil)) (zgName 6) (zSeq (zSet 7 (zLstC zNil))
    (zSeq (zFor (zRange1 (zCons (zVar 4) zNil)) (zgName 8) (zIfS (zAnd (zB (zOp dLt (zVar 6) (zVar 3))) (zB (zOp dLt (zVar 8) (zVar 3)))) (zExpr (zMethL dAppend (zVar 7) (zCons (zOp dIx (zOp dIx (zOp dIx (zVar 0) (zC (.int 1))) (zVar 8)) (zVar 6)) zNil))) (zIfS (zOr (zB (zOp dLt (zVar 6) (zVar 3))) (zB (zOp dLt (zVar 8) (zVar 3)))) (zExpr (zMethL dAppend (zVar 7) (zCons (zAndV (zVar 2) (zOp dLt (zVar 6) (zVar 3))) zNil))) (zExpr (zMethL dAppend (zVar 7) (zCons (zOp dIx (zOp dIx (zOp dIx (zVar 1) (zC (.int 1))) (zOp dSub (zVar 8) (zVar 3))) (zOp dSub (zVar 6) (zVar 3))) zNil))))))
    (zExpr (zMethL dAppend (zVar 5) (zCons (zVar 7) zNil))))))
    (zRet (zCallF 2 F__law_listed (zCons (zVar 4) (zCons (zVar 5) zNil))))))))
noncomputable def F__law_joined_up : List D → Sto → Rs D := Fof 0 N__law_joined_up run__law_joined_up
abbrev N__law_times : List Str := ["first", "second", "n", "m", "table", "x", "q", "row", "y", "is_first", "r"]
noncomputable def run__law_times : SM :=
    (zSeq (zSet 2 (zOp dIx (zOp dIx (zVar 0) (zC (.int 0))) (zC (.int 0))))
    (zSeq (zSet 3 (zOp dIx (zOp dIx (zVar 1) (zC (.int 0))) (zC (.int 0))))
    (zSeq (zSet 4 (zLstC zNil))
    (zSeq (zFor (zRange1 (zCons (zVar 2) zNil)) (zgName 5) (zFor (zRange1 (zCons (zVar 3) zNil)) (zgName 6) (zSeq (zSet 7 (zLst zNil))
    (zSeq (zFor (zRange1 (zCons (zVar 2) zNil)) (zgName 8) (zSeq (zSet 9 (zOrV (zOp dEq (zVar 5) (zVar 8)) (zOp dIx (zOp dIx (zOp dIx (zVar 0) (zC (.int 1))) (zVar 8)) (zVar 5))))
    (zSet 7 (zOp dAdd (zVar 7) (zLcK .frz [10] (zRange1 (zCons (zVar 3) zNil)) (zgName 10) zYes (zAndV (zVar 9) (zAndV (zOrV (zOp dEq (zVar 6) (zVar 10)) (zOp dIx (zOp dIx (zOp dIx (zVar 1) (zC (.int 1))) (zVar 10)) (zVar 6))) (zOrV (zOp dNe (zVar 5) (zVar 8)) (zOp dNe (zVar 6) (zVar 10))))))))))
    (zExpr (zMethL dAppend (zVar 4) (zCons (zVar 7) zNil)))))))
    (zRet (zCallF 2 F__law_listed (zCons (zOp dMul (zVar 2) (zVar 3)) (zCons (zVar 4) zNil))))))))
noncomputable def F__law_times : List D → Sto → Rs D := Fof 0 N__law_times run__law_times
abbrev N__law_some : List Str := ["box", "n", "line", "lower"]
noncomputable def run__law_some : SM :=
    (zSeq (zSet 2 (zCallF 2 F__law_line (zCons (zVar 0) (zCons (zVar 1) zNil))))
    (zSeq (zSet 3 (zCallF 2 F__law_lower (zCons (zVar 2) (zCons (zCallF 2 F__law_linked (zCons (zVar 0) (zCons (zVar 2) zNil))) zNil))))
    (zRet (zTup (zCons (zTup (zCons (zVar 1) (zCons (zCallF 1 F__law_pairs (zCons (zVar 3) zNil)) zNil))) (zCons (zVar 3) zNil))))))
noncomputable def F__law_some : List D → Sto → Rs D := Fof 0 N__law_some run__law_some
abbrev N__moved : List Str := ["order", "by", "x", "y"]
noncomputable def run__moved : SM :=
    (zRet (zTG [2, 3] (zSrc (zOp dIx (zVar 0) (zC (.int 1)))) (zgTup 2 (zgCons (zgName 2) (zgCons (zgName 3) zgNil))) zYes (zTup (zCons (zOp dAdd (zVar 2) (zVar 1)) (zCons (zOp dAdd (zVar 3) (zVar 1)) zNil)))))
noncomputable def F__moved : List D → Sto → Rs D := Fof 0 N__moved run__moved
abbrev N_beside : List Str := ["first", "second", "n"]
noncomputable def run_beside : SM :=
    (zSeq (zSet 2 (zOp dAdd (zOp dIx (zVar 0) (zC (.int 0))) (zOp dIx (zVar 1) (zC (.int 0)))))
    (zSeq (zExpr (zCallF 1 F__check_size (zCons (zVar 2) zNil)))
    (zRet (zTup (zCons (zVar 2) (zCons (zOp dAdd (zOp dIx (zVar 0) (zC (.int 1))) (zCallF 2 F__moved (zCons (zVar 1) (zCons (zOp dIx (zVar 0) (zC (.int 0))) zNil)))) zNil))))))
noncomputable def F_beside : List D → Sto → Rs D := Fof 0 N_beside run_beside
abbrev N_on_top : List Str := ["first", "second", "low", "n", "between", "x", "y"]
noncomputable def run_on_top : SM :=
    (zSeq (zSet 2 (zOp dIx (zVar 0) (zC (.int 0))))
    (zSeq (zSet 3 (zOp dAdd (zVar 2) (zOp dIx (zVar 1) (zC (.int 0)))))
    (zSeq (zExpr (zCallF 1 F__check_size (zCons (zVar 3) zNil)))
    (zSeq (zSet 4 (zLc2K .frz [5, 6] [6] (zRange1 (zCons (zVar 2) zNil)) (zgName 5) zYes (zRange2 (zCons (zVar 2) (zCons (zVar 3) zNil))) (zgName 6) zYes (zTup (zCons (zVar 5) (zCons (zVar 6) zNil)))))
    (zRet (zTup (zCons (zVar 3) (zCons (zOp dAdd (zCall dTuple (zCons (zCall dSorted (zCons (zLst (zStar (zOp dIx (zVar 0) (zC (.int 1))) (zStar (zVar 4) zNil))) zNil)) zNil)) (zCallF 2 F__moved (zCons (zVar 1) (zCons (zVar 2) zNil)))) zNil))))))))
noncomputable def F_on_top : List D → Sto → Rs D := Fof 0 N_on_top run_on_top
abbrev N__law_right : List Str := ["first", "second", "one", "other", "due"]
noncomputable def run__law_right : SM :=
    (zSeq (zSet 2 (zOp dIx (zVar 0) (zC (.int 0))))
    (zSeq (zSet 3 (zOp dIx (zVar 1) (zC (.int 0))))
    (zSeq (zSet 4 (zLst (zCons (zCallF 3 F__law_joined_up (zCons (zVar 0) (zCons (zVar 1) (zCons (zC (.bl false)) zNil)))) (zCons (zCallF 3 F__law_joined_up (zCons (zVar 0) (zCons (zVar 1) (zCons (zC (.bl true)) zNil)))) zNil))))
    (zSeq (zIfS (zNot (zTru (zCallF 2 (F__law_alike 8) (zCons (zLst (zCons (zCallF 2 F_beside (zCons (zVar 2) (zCons (zVar 3) zNil))) (zCons (zCallF 2 F_on_top (zCons (zVar 2) (zCons (zVar 3) zNil))) zNil))) (zCons (zVar 4) zNil))))) (zRet (zC (.bl false))) zNext)
    (zSeq (zIfS (zNot (zTru (zCallF 2 (F__law_alike 8) (zCons (zLst (zCons (zCallK 2 F_beside [1, 0] zNil (zCons (zVar 3) (zCons (zVar 2) zNil))) (zCons (zCallK 2 F_on_top [1, 0] zNil (zCons (zVar 3) (zCons (zVar 2) zNil))) zNil))) (zCons (zVar 4) zNil))))) (zRet (zC (.bl false))) zNext)
    (zSeq (zIfS (zB (zOp dGt (zOp dMul (zOp dIx (zVar 2) (zC (.int 0))) (zOp dIx (zVar 3) (zC (.int 0)))) (zC (.int 64)))) (zRet (zC (.bl true))) zNext)
    (zSeq (zSet 4 (zCallF 2 F__law_times (zCons (zVar 0) (zCons (zVar 1) zNil))))
    (zRet (zCallF 2 (F__law_alike 8) (zCons (zLst (zCons (zCallF 2 F_product (zCons (zVar 2) (zCons (zVar 3) zNil))) (zCons (zCallK 2 F_product [1, 0] zNil (zCons (zVar 3) (zCons (zVar 2) zNil))) zNil))) (zCons (zLst (zCons (zVar 4) (zCons (zVar 4) zNil))) zNil)))))))))))
noncomputable def F__law_right : List D → Sto → Rs D := Fof 0 N__law_right run__law_right
abbrev N__law_three : List Str := ["first", "second", "third", "due", "one", "other", "last"]
noncomputable def run__law_three : SM :=
    (zSeq (zAsg (zLst (zCons (zOp dIx (zVar 0) (zC (.int 0))) (zCons (zOp dIx (zVar 1) (zC (.int 0))) (zCons (zOp dIx (zVar 2) (zC (.int 0))) zNil)))) (zgUnl 3 (zgCons (zgName 4) (zgCons (zgName 5) (zgCons (zgName 6) zgNil)))))
    (zSeq (zSet 3 (zCallF 3 F__law_joined_up (zCons (zCallF 1 F__law_known (zCons (zCallF 3 F__law_joined_up (zCons (zVar 0) (zCons (zVar 1) (zCons (zC (.bl false)) zNil)))) zNil)) (zCons (zVar 2) (zCons (zC (.bl false)) zNil)))))
    (zSeq (zIfS (zNot (zTru (zCallF 2 (F__law_alike 8) (zCons (zLst (zCons (zCallF 2 F_beside (zCons (zCallF 2 F_beside (zCons (zVar 4) (zCons (zVar 5) zNil))) (zCons (zVar 6) zNil))) (zCons (zCallF 2 F_beside (zCons (zVar 4) (zCons (zCallF 2 F_beside (zCons (zVar 5) (zCons (zVar 6) zNil))) zNil))) zNil))) (zCons (zLst (zCons (zVar 3) (zCons (zVar 3) zNil))) zNil))))) (zRet (zC (.bl false))) zNext)
    (zSeq (zSet 3 (zCallF 3 F__law_joined_up (zCons (zCallF 1 F__law_known (zCons (zCallF 3 F__law_joined_up (zCons (zVar 0) (zCons (zVar 1) (zCons (zC (.bl true)) zNil)))) zNil)) (zCons (zVar 2) (zCons (zC (.bl true)) zNil)))))
    (zSeq (zIfS (zNot (zTru (zCallF 2 (F__law_alike 8) (zCons (zLst (zCons (zCallF 2 F_on_top (zCons (zCallF 2 F_on_top (zCons (zVar 4) (zCons (zVar 5) zNil))) (zCons (zVar 6) zNil))) (zCons (zCallF 2 F_on_top (zCons (zVar 4) (zCons (zCallF 2 F_on_top (zCons (zVar 5) (zCons (zVar 6) zNil))) zNil))) zNil))) (zCons (zLst (zCons (zVar 3) (zCons (zVar 3) zNil))) zNil))))) (zRet (zC (.bl false))) zNext)
    (zSeq (zIfS (zOr (zB (zOp dGt (zOp dMul (zOp dIx (zVar 4) (zC (.int 0))) (zOp dIx (zVar 5) (zC (.int 0)))) (zC (.int 32)))) (zOr (zB (zOp dGt (zOp dMul (zOp dIx (zVar 5) (zC (.int 0))) (zOp dIx (zVar 6) (zC (.int 0)))) (zC (.int 32)))) (zB (zOp dGt (zOp dMul (zOp dMul (zOp dIx (zVar 4) (zC (.int 0))) (zOp dIx (zVar 5) (zC (.int 0)))) (zOp dIx (zVar 6) (zC (.int 0)))) (zC (.int 32)))))) (zRet (zC (.bl true))) zNext)
    (zSeq (zSet 3 (zCallF 2 F__law_times (zCons (zCallF 1 F__law_known (zCons (zCallF 2 F__law_times (zCons (zVar 0) (zCons (zVar 1) zNil))) zNil)) (zCons (zVar 2) zNil))))
    (zRet (zCallF 2 (F__law_alike 8) (zCons (zLst (zCons (zCallF 2 F_product (zCons (zCallF 2 F_product (zCons (zVar 4) (zCons (zVar 5) zNil))) (zCons (zVar 6) zNil))) (zCons (zCallF 2 F_product (zCons (zVar 4) (zCons (zCallF 2 F_product (zCons (zVar 5) (zCons (zVar 6) zNil))) zNil))) zNil))) (zCons (zLst (zCons (zVar 3) (zCons (zVar 3) zNil))) zNil)))))))))))
noncomputable def F__law_three : List D → Sto → Rs D := Fof 0 N__law_three run__law_three
abbrev N_law : List Str := ["script", "box", "some", "nothing", "single", "both", "first", "second", "k"]
noncomputable def run_law : SM :=
    (zSeq (zSet 1 (zCallF 1 F__law_box (zCons (zVar 0) zNil)))
    (zSeq (zIfS (zB (zOp dEq (zCallF 2 F__law_draw (zCons (zVar 1) (zCons (zC (.int 8)) zNil))) (zC (.int 0)))) (zSeq (zSet 6 (zCallF 2 F__law_some (zCons (zVar 1) (zCons (zCallF 2 F__law_draw (zCons (zVar 1) (zCons (zC (.int 33)) zNil))) zNil))))
    (zRet (zCallF 2 F__law_right (zCons (zVar 6) (zCons (zCallF 2 F__law_some (zCons (zVar 1) (zCons (zCallF 2 F__law_draw (zCons (zVar 1) (zCons (zC (.int 33)) zNil))) zNil))) zNil))))) zNext)
    (zSeq (zSet 2 (zLcK .frz [8] (zRange1 (zCons (zC (.int 3)) zNil)) (zgName 8) zYes (zCallF 2 F__law_some (zCons (zVar 1) (zCons (zCallF 2 F__law_draw (zCons (zVar 1) (zCons (zOp dIx (zLst (zCons (zC (.int 3)) (zCons (zC (.int 5)) (zCons (zC (.int 8)) zNil)))) (zCallF 2 F__law_draw (zCons (zVar 1) (zCons (zC (.int 3)) zNil)))) zNil))) zNil)))))
    (zSeq (zSet 3 (zTup (zCons (zTup (zCons (zC (.int 0)) (zCons (zTup zNil) zNil))) (zCons (zLst zNil) zNil))))
    (zSeq (zSet 4 (zTup (zCons (zTup (zCons (zC (.int 1)) (zCons (zTup zNil) zNil))) (zCons (zLst (zCons (zLst (zCons (zC (.bl false)) zNil)) zNil)) zNil))))
    (zSeq (zSet 5 (zLst (zCons (zTup (zCons (zOp dIx (zVar 2) (zC (.int 0))) (zCons (zOp dIx (zVar 2) (zC (.int 1))) zNil))) (zCons (zTup (zCons (zOp dIx (zVar 2) (zC (.int 1))) (zCons (zOp dIx (zVar 2) (zC (.int 0))) zNil))) (zCons (zTup (zCons (zOp dIx (zVar 2) (zC (.int 2))) (zCons (zOp dIx (zVar 2) (zC (.int 2))) zNil))) (zCons (zTup (zCons (zOp dIx (zVar 2) (zC (.int 0))) (zCons (zVar 3) zNil))) (zCons (zTup (zCons (zVar 3) (zCons (zOp dIx (zVar 2) (zC (.int 1))) zNil))) zNil)))))))
    (zSeq (zFor (zSrc (zVar 5)) (zgTup 2 (zgCons (zgName 6) (zgCons (zgName 7) zgNil))) (zIfS (zNot (zTru (zCallF 2 F__law_right (zCons (zVar 6) (zCons (zVar 7) zNil))))) (zRet (zC (.bl false))) zNext))
    (zSeq (zIfS (zOr (zNot (zTru (zCallF 2 F__law_right (zCons (zVar 4) (zCons (zOp dIx (zVar 2) (zC (.int 2))) zNil))))) (zNot (zTru (zCallF 2 F__law_right (zCons (zOp dIx (zVar 2) (zC (.int 2))) (zCons (zVar 4) zNil)))))) (zRet (zC (.bl false))) zNext)
    (zRet (zCallF 3 F__law_three (zCons (zOp dIx (zVar 2) (zC (.int 0))) (zCons (zOp dIx (zVar 2) (zC (.int 1))) (zCons (zOp dIx (zVar 2) (zC (.int 2))) zNil)))))))))))))
noncomputable def F_law : List D → Sto → Rs D := Fof 0 N_law run_law
end K07

namespace Z
open PySem L2
open PySem.Spec PyProof.Rows
variable [Tabs]
section
variable {α β : Type} {L : List α} {L1 : α → List β} {mk : α → D} {mk1 : β → D} {p1 : α → β → Bool} {v : α → β → D} {c : Nat} {vs vs1 : List Nat} {fi fi1 : EI} {g g1 : GM} {ft ft1 : EM Bool} {fe : EM D} {env : En} {S S1 : Sto}
theorem lcK2_pure (hi : fi env S = .ok ⟨L.map mk, none⟩ S1) (hb : L.length * c ≤ bigN)
    (h : ∀ a ∈ L, ∃ env1, g (mk a) (wipeE env vs) = some env1 ∧ ft env1 S1 = .ok true S1 ∧ fi1 env1 S1 = .ok ⟨(L1 a).map mk1, none⟩ S1 ∧ (L1 a).length ≤ c ∧ ∀ b ∈ L1 a, ∃ env2, g1 (mk1 b) (wipeE env1 vs1) = some env2 ∧ ft1 env2 S1 = .ok (p1 a b) S1 ∧ (p1 a b = true → fe env2 S1 = .ok (v a b) S1)) :
    zLc2K .frz vs vs1 fi g ft fi1 g1 ft1 fe env S = .ok (.lst (L.flatMap fun a => ((L1 a).filter (p1 a)).map (v a))) S1 := by
  rw [zLc2K, hi, Rs.bnd_ok]
  show ((lcB ⟨L.map mk, none⟩ g ft fi1 g1 ft1 fe vs1 (wipeE env vs) (L.map mk) [] S1).bnd Mk.frz.res) = _
  rw [lcB_pure (c := c) (w := fun a => ((L1 a).filter (p1 a)).map (v a)) rfl L [] (by simpa using hb) fun a ha => ?_]
  · rfl
  · obtain ⟨env1, h1, h2, h3, h4, h5⟩ := h a ha
    refine ⟨env1, h1, h2, _, h3, ?_, fun acc hacc => lcA_pure (p := p1 a) (v := v a) rfl (L1 a) acc (by omega) h5⟩
    rw [List.length_map]
    exact Nat.le_trans (List.length_filter_le _ _) h4
end
end Z
namespace K07
open PySem L2 Z K06
open PySem.Spec PyProof.Rows
variable [Tabs]
theorem ca_lt {n : Nat} {q : Nat → Nat → Bool} {p : Nat × Nat} (hp : p ∈ canon n q) : p.1 < n ∧ p.2 < n := by
  have := mem_canon.mp (show (p.1, p.2) ∈ canon n q from hp)
  exact ⟨this.1, this.2.1⟩
theorem ca_big {n : Nat} (hn : n ≤ 64) (q : Nat → Nat → Bool) : (canon n q).length ≤ 4096 := Nat.le_trans (canon_len n q) (Nat.mul_le_mul hn hn)
def bes (n : Nat) (q p : Nat → Nat → Bool) (x y : Nat) : Bool := (decide (x < n) && decide (y < n) && q x y) || (decide (n ≤ x) && decide (n ≤ y) && p (x - n) (y - n))
def top (n : Nat) (q p : Nat → Nat → Bool) (x y : Nat) : Bool := bes n q p x y || (decide (x < n) && decide (n ≤ y))
def prd (m : Nat) (q p : Nat → Nat → Bool) (i j : Nat) : Bool := !decide (i = j) && (decide (i / m = j / m) || q (i / m) (j / m)) && (decide (i % m = j % m) || p (i % m) (j % m))
def sh (n : Nat) (e : Nat × Nat) : Nat × Nat := (e.1 + n, e.2 + n)
theorem sh_lex {n : Nat} {l : List (Nat × Nat)} (h : l.Pairwise lexLt) : (l.map (sh n)).Pairwise lexLt := by
  rw [List.pairwise_map]
  refine h.imp fun {a b} h => ?_
  unfold Z.lexLt sh at *
  simp only
  omega
theorem mem_sh {n m : Nat} {p : Nat → Nat → Bool} {x y : Nat} : (x, y) ∈ (canon m p).map (sh n) ↔ n ≤ x ∧ n ≤ y ∧ x < n + m ∧ y < n + m ∧ p (x - n) (y - n) = true := by
  rw [List.mem_map]
  constructor
  · rintro ⟨⟨a, b⟩, h, e⟩
    have h := mem_canon.mp h
    unfold sh at e
    simp only [Prod.mk.injEq] at e
    obtain ⟨rfl, rfl⟩ := e
    exact ⟨by omega, by omega, by omega, by omega, by simpa using h.2.2⟩
  · rintro ⟨h1, h2, h3, h4, h5⟩
    exact ⟨(x - n, y - n), mem_canon.mpr ⟨by omega, by omega, h5⟩, by unfold sh; simp only [Prod.mk.injEq]; omega⟩
theorem canon_bes (n m : Nat) (q p : Nat → Nat → Bool) : canon (n + m) (bes n q p) = canon n q ++ (canon m p).map (sh n) := by
  refine lex_ext (canon_lex _ _) (List.pairwise_append.mpr ⟨canon_lex n q, sh_lex (canon_lex m p), fun a ha b hb => ?_⟩) fun ⟨x, y⟩ => ?_
  · have h1 := (ca_lt ha).1
    have h2 := (mem_sh.mp (show (b.1, b.2) ∈ _ from hb)).1
    exact .inl (by omega)
  · rw [List.mem_append, mem_canon, mem_canon, mem_sh]
    simp only [bes, Bool.or_eq_true, Bool.and_eq_true, decide_eq_true_eq]
    constructor
    · rintro ⟨h1, h2, ⟨⟨a, b⟩, c⟩ | ⟨⟨a, b⟩, c⟩⟩
      · exact .inl ⟨a, b, c⟩
      · exact .inr ⟨a, b, h1, h2, c⟩
    · rintro (⟨a, b, c⟩ | ⟨a, b, c, d, e⟩)
      · exact ⟨by omega, by omega, .inl ⟨⟨a, b⟩, c⟩⟩
      · exact ⟨c, d, .inr ⟨⟨a, b⟩, e⟩⟩
/-! ### the package -/
theorem ord_ix {n : Nat} {P : List (Nat × Nat)} {env : En} {S : Sto} {i : Nat} (h : env[i]? = some (some (ordD n P))) : zOp dIx (zVar i) (zC (.int 0)) env S = .ok (dN n) S ∧ zOp dIx (zVar i) (zC (.int 1)) env S = .ok (.tup (P.map pD)) S :=
  ⟨op_n (d := ordD n P) (by rw [zVar, h]) rfl rfl, op_n (d := ordD n P) (by rw [zVar, h]) rfl rfl⟩
theorem add_N (a b : Nat) (S : Sto) : dAdd (dN a) (dN b) S = .ok (dN (a + b)) S := by
  show (Rs.ok (D.int ((a : Int) + (b : Int))) S : Rs D) = _
  rw [dN, Int.natCast_add]
theorem tups_add {xs ys : List D} (h : xs.length + ys.length ≤ bigN) (S : Sto) : dAdd (.tup xs) (.tup ys) S = .ok (.tup (xs ++ ys)) S := by
  unfold dAdd
  simp only [if_pos h]
theorem eval_moved {m n : Nat} (hm : m ≤ 64) (p : Nat → Nat → Bool) (S : Sto) : F__moved [relD m p, dN n] S = .ok (.tup (((canon m p).map (sh n)).map pD)) S := by
  refine Fof_ret0 (ret_n ?_) (cls_map (f := pD) (cl_pD _) _)
  rw [tG_pure (L := canon m p) (mk := pD) (v := fun e => pD (sh n e)) (p := fun _ => true) (src_t (ord_ix (i := 0) rfl).2) (by have := ca_big hm p; unfold bigN; omega) fun e he => ⟨[some (relD m p), some (dN n), some (dN e.1), some (dN e.2)], rfl, rfl, fun _ => tup2_n (op_n rfl rfl (add_N _ _ _)) (op_n rfl rfl (add_N _ _ _))⟩]
  rw [filter_tt, List.map_map]
  rfl
theorem eval_beside {n m : Nat} (h : n + m ≤ 64) (q p : Nat → Nat → Bool) (S : Sto) : F_beside [relD n q, relD m p] S = .ok (relD (n + m) (bes n q p)) S := by
  have h1 := ca_big (n := n) (by omega) q
  have h2 := ca_big (n := m) (by omega) p
  refine Fof_ret0 ?_ (cl_ordD _ _ _)
  refine seq_n (env' := [some (relD n q), some (relD m p), some (dN (n + m))]) (S' := S) (set_n (op_n (ord_ix (i := 0) rfl).1 (ord_ix (i := 1) rfl).1 (add_N _ _ _))) ?_
  refine seq_n (S' := S) (expr_n (callF1 (d := .int ((n + m : Nat) : Int)) rfl (eval_size h S))) ?_
  have e : relD (n + m) (bes n q p) = .tup [dN (n + m), .tup ((canon n q).map pD ++ ((canon m p).map (sh n)).map pD)] := by
    unfold relD ordD
    rw [canon_bes, List.map_append]
  rw [e]
  exact ret_n (tup2_n rfl (op_n (ord_ix (i := 0) rfl).2 (callF2 rfl (ord_ix (i := 0) rfl).1 (eval_moved (by omega) p S)) (tups_add (by simp only [List.length_map]; unfold bigN; omega) S)))
theorem sorted_all (P : List (Nat × Nat)) (S : Sto) : dSorted [.lst (P.map pD)] S = .ok (.lst ((sortP (P.map toI)).map Z.pairD)) S := by
  have e : P.map pD = (P.map toI).map Z.pairD := by rw [List.map_map]; rfl
  unfold dSorted
  simp only [seqOf, e, pairsOf_map]
end K07

namespace K58
open PySem L2 Z K06
open PySem.Spec PyProof.Rows
variable [Tabs]
abbrev N__law_tape : List Str := ["script", "salt", "number"]
noncomputable def run__law_tape : SM :=
    (zSeq (zSet 1 (zOp dAdd (zC (.int 11)) (zCall dLen (zCons (zVar 0) zNil))))
    (zSeq (zFor (zSrc (zVar 0)) (zgName 2) (zSet 1 (zOp dMod (zCall dInt (zCons (zOp dAdd (zOp dAdd (zOp dMul (zVar 1) (zC (.int 69621))) (zCall dAbs (zCons (zVar 2) zNil))) (zC (.int 3))) zNil)) (zC (.int 2147483647)))))
    (zRet (zDict .cel [.inr "cells", .inr "at", .inr "value", .inr "digits", .inr "mixed", .inr "salt"] (zdCons (zCall dList (zCons (zVar 0) zNil)) (zdCons (zC (.int 0)) (zdCons (zC (.int 0)) (zdCons (zC (.int 0)) (zdCons (zC (.int 0)) (zdCons (zVar 1) zNil))))))))))
noncomputable def F__law_tape : List D → Sto → Rs D := Fof 0 N__law_tape run__law_tape
/-- 0 script, 1 salt, 2 number -/
theorem go__law_tape {d0 : D} {S : Sto} {R : XV → Sto → Prop} {Q : D → Sto → Prop} (h : V.X ((zSeq (zSet 1 (zOp dAdd (zC (dN 11)) (zCall dLen (zCons (zVar 0) zNil))))
    (zSeq (zFor (zSrc (zVar 0)) (zgName 2) (zSet 1 (zOp dMod (zCall dInt (zCons (zOp dAdd (zOp dAdd (zOp dMul (zVar 1) (zC (dN 69621))) (zCall dAbs (zCons (zVar 2) zNil))) (zC (dN 3))) zNil)) (zC (dN 2147483647)))))
    (zRet (zDict .cel [.inr "cells", .inr "at", .inr "value", .inr "digits", .inr "mixed", .inr "salt"] (zdCons (zCall dList (zCons (zVar 0) zNil)) (zdCons (zC (dN 0)) (zdCons (zC (dN 0)) (zdCons (zC (dN 0)) (zdCons (zC (dN 0)) (zdCons (zVar 1) zNil)))))))))) [some d0, none, none] S) (V.FinQ 0 S R Q)) : V.W (F__law_tape [d0] S) R Q := V.wf h
abbrev N__law_load : List Str := ["tape", "number"]
noncomputable def run__law_load : SM :=
    (zSeq (zSet 1 (zOp dIx (zOp dGetD (zVar 0) (zC (.str "cells"))) (zOp dGetD (zVar 0) (zC (.str "at")))))
    (zSeq (zPutD (zVar 0) (zC (.str "at")) (zOp dAdd (zOp dGetD (zVar 0) (zC (.str "at"))) (zC (.int 1))))
    (zIfS (zB (zOp dEq (zOp dMod (zCall dInt (zCons (zVar 1) zNil)) (zC (.int 2))) (zC (.int 0)))) (zSeq (zPutD (zVar 0) (zC (.str "value")) (zOp dDiv (zCall dAbs (zCons (zVar 1) zNil)) (zC (.int 2))))
    (zPutD (zVar 0) (zC (.str "digits")) (zC (.int 60)))) (zSeq (zPutD (zVar 0) (zC (.str "salt")) (zOp dMod (zCall dInt (zCons (zOp dAdd (zOp dAdd (zOp dMul (zOp dGetD (zVar 0) (zC (.str "salt"))) (zC (.int 16807))) (zOp dDiv (zCall dAbs (zCons (zVar 1) zNil)) (zC (.int 2)))) (zC (.int 1))) zNil)) (zC (.int 2147483647))))
    (zPutD (zVar 0) (zC (.str "mixed")) (zC (.int 9)))))))
noncomputable def F__law_load : List D → Sto → Rs D := Fof 0 N__law_load run__law_load
/-- 0 tape, 1 number -/
theorem go__law_load {d0 : D} {S : Sto} {R : XV → Sto → Prop} {Q : D → Sto → Prop} (h : V.X ((zSeq (zSet 1 (zOp dIx (zOp dGetD (zVar 0) (zC (.str "cells"))) (zOp dGetD (zVar 0) (zC (.str "at")))))
    (zSeq (zPutD (zVar 0) (zC (.str "at")) (zOp dAdd (zOp dGetD (zVar 0) (zC (.str "at"))) (zC (dN 1))))
    (zIfS (zB (zOp dEq (zOp dMod (zCall dInt (zCons (zVar 1) zNil)) (zC (dN 2))) (zC (dN 0)))) (zSeq (zPutD (zVar 0) (zC (.str "value")) (zOp dDiv (zCall dAbs (zCons (zVar 1) zNil)) (zC (dN 2))))
    (zPutD (zVar 0) (zC (.str "digits")) (zC (dN 60)))) (zSeq (zPutD (zVar 0) (zC (.str "salt")) (zOp dMod (zCall dInt (zCons (zOp dAdd (zOp dAdd (zOp dMul (zOp dGetD (zVar 0) (zC (.str "salt"))) (zC (dN 16807))) (zOp dDiv (zCall dAbs (zCons (zVar 1) zNil)) (zC (dN 2)))) (zC (dN 1))) zNil)) (zC (dN 2147483647))))
    (zPutD (zVar 0) (zC (.str "mixed")) (zC (dN 9))))))) [some d0, none] S) (V.FinQ 0 S R Q)) : V.W (F__law_load [d0] S) R Q := V.wf h
abbrev N__law_closed : List Str := ["many", "links", "up", "mid", "x", "y", "row", "k"]
noncomputable def run__law_closed : SM :=
    (zSeq (zSet 2 (zLcK .cel [7] (zRange1 (zCons (zVar 0) zNil)) (zgName 7) zYes (zOp dMulC (zLst (zCons (zC (.bl false)) zNil)) (zVar 0))))
    (zSeq (zFor (zSrc (zVar 1)) (zgTup 2 (zgCons (zgName 4) (zgCons (zgName 5) zgNil))) (zSeq (zSet 6 (zOp dIx (zVar 2) (zVar 4)))
    (zPut (zVar 6) (zVar 5) (zC (.bl true)))))
    (zSeq (zFor (zRange1 (zCons (zVar 0) zNil)) (zgName 3) (zFor (zRange1 (zCons (zVar 0) zNil)) (zgName 4) (zIfS (zTru (zOp dIx (zOp dIx (zVar 2) (zVar 4)) (zVar 3))) (zPut (zVar 2) (zVar 4) (zLcK .frz [5] (zRange1 (zCons (zVar 0) zNil)) (zgName 5) zYes (zOrV (zOp dIx (zOp dIx (zVar 2) (zVar 4)) (zVar 5)) (zOp dIx (zOp dIx (zVar 2) (zVar 3)) (zVar 5))))) zNext)))
    (zRet (zVar 2)))))
noncomputable def F__law_closed : List D → Sto → Rs D := Fof 2 N__law_closed run__law_closed
/-- 0 many, 1 links, 2 up, 3 mid, 4 x, 5 y, 6 row, 7 k -/
theorem go__law_closed {d0 d1 : D} {S : Sto} {R : XV → Sto → Prop} {Q : D → Sto → Prop} (h : V.X ((zSeq (zSet 2 (zLcK .cel [7] (zRange1 (zCons (zVar 0) zNil)) (zgName 7) zYes (zOp dMulC (zLst (zCons (zC (.bl false)) zNil)) (zVar 0))))
    (zSeq (zFor (zSrc (zVar 1)) (zgTup 2 (zgCons (zgName 4) (zgCons (zgName 5) zgNil))) (zSeq (zSet 6 (zOp dIx (zVar 2) (zVar 4)))
    (zPut (zVar 6) (zVar 5) (zC (.bl true)))))
    (zSeq (zFor (zRange1 (zCons (zVar 0) zNil)) (zgName 3) (zFor (zRange1 (zCons (zVar 0) zNil)) (zgName 4) (zIfS (zTru (zOp dIx (zOp dIx (zVar 2) (zVar 4)) (zVar 3))) (zPut (zVar 2) (zVar 4) (zLcK .frz [5] (zRange1 (zCons (zVar 0) zNil)) (zgName 5) zYes (zOrV (zOp dIx (zOp dIx (zVar 2) (zVar 4)) (zVar 5)) (zOp dIx (zOp dIx (zVar 2) (zVar 3)) (zVar 5))))) zNext)))
    (zRet (zVar 2))))) [some d0, some d1, none, none, none, none, none, none] S) (V.FinQ 2 S R Q)) : V.W (F__law_closed [d0, d1] S) R Q := V.wf h
abbrev N__law_told : List Str := ["up", "names", "pairs", "x", "y"]
noncomputable def run__law_told : SM :=
    (zSeq (zSet 2 (zLst zNil))
    (zSeq (zFor (zRange1 (zCons (zCall dLen (zCons (zVar 0) zNil)) zNil)) (zgName 3) (zSet 2 (zOp dAdd (zVar 2) (zLcK .frz [4] (zRange1 (zCons (zCall dLen (zCons (zVar 0) zNil)) zNil)) (zgName 4) (zTru (zOp dIx (zOp dIx (zVar 0) (zVar 3)) (zVar 4))) (zTup (zCons (zOp dIx (zVar 1) (zVar 3)) (zCons (zOp dIx (zVar 1) (zVar 4)) zNil)))))))
    (zRet (zTup (zCons (zCall dLen (zCons (zVar 0) zNil)) (zCons (zCall dTuple (zCons (zCall dSorted (zCons (zVar 2) zNil)) zNil)) zNil))))))
noncomputable def F__law_told : List D → Sto → Rs D := Fof 0 N__law_told run__law_told
/-- 0 up, 1 names, 2 pairs, 3 x, 4 y -/
theorem go__law_told {d0 d1 : D} {S : Sto} {R : XV → Sto → Prop} {Q : D → Sto → Prop} (h : V.X ((zSeq (zSet 2 (zLst zNil))
    (zSeq (zFor (zRange1 (zCons (zCall dLen (zCons (zVar 0) zNil)) zNil)) (zgName 3) (zSet 2 (zOp dAdd (zVar 2) (zLcK .frz [4] (zRange1 (zCons (zCall dLen (zCons (zVar 0) zNil)) zNil)) (zgName 4) (zTru (zOp dIx (zOp dIx (zVar 0) (zVar 3)) (zVar 4))) (zTup (zCons (zOp dIx (zVar 1) (zVar 3)) (zCons (zOp dIx (zVar 1) (zVar 4)) zNil)))))))
    (zRet (zTup (zCons (zCall dLen (zCons (zVar 0) zNil)) (zCons (zCall dTuple (zCons (zCall dSorted (zCons (zVar 2) zNil)) zNil)) zNil)))))) [some d0, some d1, none, none, none] S) (V.FinQ 0 S R Q)) : V.W (F__law_told [d0, d1] S) R Q := V.wf h
abbrev N__law_chain_list : List Str := ["up", "many", "ranked", "found", "rank", "x", "one", "y"]
noncomputable def run__law_chain_list : SM :=
    (zSeq (zSet 1 (zCall dLen (zCons (zVar 0) zNil)))
    (zSeq (zSet 2 (zCall dSorted (zCons (zLcK .frz [5] (zRange1 (zCons (zVar 1) zNil)) (zgName 5) zYes (zTup (zCons (zCall dLen (zCons (zLcK .frz [7] (zRange1 (zCons (zVar 1) zNil)) (zgName 7) (zTru (zOp dIx (zOp dIx (zVar 0) (zVar 7)) (zVar 5))) (zVar 7)) zNil)) (zCons (zVar 5) zNil)))) zNil)))
    (zSeq (zSet 3 (zLst (zCons (zTup zNil) zNil)))
    (zSeq (zFor (zSrc (zVar 2)) (zgTup 2 (zgCons (zgName 4) (zgCons (zgName 5) zgNil))) (zSet 3 (zOp dAdd (zVar 3) (zLcK .frz [6] (zSrc (zVar 3)) (zgName 6) (zOr (zB (zOp dEq (zCall dLen (zCons (zVar 6) zNil)) (zC (.int 0)))) (zTru (zOp dIx (zOp dIx (zVar 0) (zOp dIx (zVar 6) (zUn dNeg (zC (.int 1))))) (zVar 5)))) (zOp dAdd (zVar 6) (zTup (zCons (zVar 5) zNil)))))))
    (zRet (zLcK .frz [6] (zSrc (zVar 3)) (zgName 6) (zB (zOp dGt (zCall dLen (zCons (zVar 6) zNil)) (zC (.int 0)))) (zVar 6)))))))
noncomputable def F__law_chain_list : List D → Sto → Rs D := Fof 0 N__law_chain_list run__law_chain_list
/-- 0 up, 1 many, 2 ranked, 3 found, 4 rank, 5 x, 6 one, 7 y -/
theorem go__law_chain_list {d0 : D} {S : Sto} {R : XV → Sto → Prop} {Q : D → Sto → Prop} (h : V.X ((zSeq (zSet 1 (zCall dLen (zCons (zVar 0) zNil)))
    (zSeq (zSet 2 (zCall dSorted (zCons (zLcK .frz [5] (zRange1 (zCons (zVar 1) zNil)) (zgName 5) zYes (zTup (zCons (zCall dLen (zCons (zLcK .frz [7] (zRange1 (zCons (zVar 1) zNil)) (zgName 7) (zTru (zOp dIx (zOp dIx (zVar 0) (zVar 7)) (zVar 5))) (zVar 7)) zNil)) (zCons (zVar 5) zNil)))) zNil)))
    (zSeq (zSet 3 (zLst (zCons (zTup zNil) zNil)))
    (zSeq (zFor (zSrc (zVar 2)) (zgTup 2 (zgCons (zgName 4) (zgCons (zgName 5) zgNil))) (zSet 3 (zOp dAdd (zVar 3) (zLcK .frz [6] (zSrc (zVar 3)) (zgName 6) (zOr (zB (zOp dEq (zCall dLen (zCons (zVar 6) zNil)) (zC (dN 0)))) (zTru (zOp dIx (zOp dIx (zVar 0) (zOp dIx (zVar 6) (zUn dNeg (zC (dN 1))))) (zVar 5)))) (zOp dAdd (zVar 6) (zTup (zCons (zVar 5) zNil)))))))
    (zRet (zLcK .frz [6] (zSrc (zVar 3)) (zgName 6) (zB (zOp dGt (zCall dLen (zCons (zVar 6) zNil)) (zC (dN 0)))) (zVar 6))))))) [some d0, none, none, none, none, none, none, none] S) (V.FinQ 0 S R Q)) : V.W (F__law_chain_list [d0] S) R Q := V.wf h
abbrev N__law_fits : List Str := ["up", "row", "x", "value", "y"]
noncomputable def run__law_fits : SM :=
    (zSeq (zFor (zRange1 (zCons (zCall dLen (zCons (zVar 0) zNil)) zNil)) (zgName 4) (zSeq (zIfS (zAnd (zTru (zOp dIx (zOp dIx (zVar 0) (zVar 4)) (zVar 2))) (zAnd (zB (zOp dNe (zOp dIx (zVar 1) (zVar 4)) (zVar 3))) (zNot (zTru (zOp dIx (zOp dIx (zVar 0) (zOp dIx (zVar 1) (zVar 4))) (zVar 3)))))) (zRet (zC (.bl false))) zNext)
    (zIfS (zAnd (zTru (zOp dIx (zOp dIx (zVar 0) (zVar 2)) (zVar 4))) (zAnd (zB (zOp dNe (zOp dIx (zVar 1) (zVar 4)) (zVar 3))) (zNot (zTru (zOp dIx (zOp dIx (zVar 0) (zVar 3)) (zOp dIx (zVar 1) (zVar 4))))))) (zRet (zC (.bl false))) zNext)))
    (zRet (zC (.bl true))))
noncomputable def F__law_fits : List D → Sto → Rs D := Fof 0 N__law_fits run__law_fits
/-- 0 up, 1 row, 2 x, 3 value, 4 y -/
theorem go__law_fits {d0 d1 d2 d3 : D} {S : Sto} {R : XV → Sto → Prop} {Q : D → Sto → Prop} (h : V.X ((zSeq (zFor (zRange1 (zCons (zCall dLen (zCons (zVar 0) zNil)) zNil)) (zgName 4) (zSeq (zIfS (zAnd (zTru (zOp dIx (zOp dIx (zVar 0) (zVar 4)) (zVar 2))) (zAnd (zB (zOp dNe (zOp dIx (zVar 1) (zVar 4)) (zVar 3))) (zNot (zTru (zOp dIx (zOp dIx (zVar 0) (zOp dIx (zVar 1) (zVar 4))) (zVar 3)))))) (zRet (zC (.bl false))) zNext)
    (zIfS (zAnd (zTru (zOp dIx (zOp dIx (zVar 0) (zVar 2)) (zVar 4))) (zAnd (zB (zOp dNe (zOp dIx (zVar 1) (zVar 4)) (zVar 3))) (zNot (zTru (zOp dIx (zOp dIx (zVar 0) (zVar 3)) (zOp dIx (zVar 1) (zVar 4))))))) (zRet (zC (.bl false))) zNext)))
    (zRet (zC (.bl true)))) [some d0, some d1, some d2, some d3, none] S) (V.FinQ 0 S R Q)) : V.W (F__law_fits [d0, d1, d2, d3] S) R Q := V.wf h
abbrev N__law_named : List Str := ["names", "row", "told", "x"]
noncomputable def run__law_named : SM :=
    (zSeq (zSet 2 (zOp dMulC (zLst (zCons (zC (.int 0)) zNil)) (zCall dLen (zCons (zVar 1) zNil))))
    (zSeq (zFor (zRange1 (zCons (zCall dLen (zCons (zVar 1) zNil)) zNil)) (zgName 3) (zPut (zVar 2) (zOp dIx (zVar 0) (zVar 3)) (zOp dIx (zVar 0) (zOp dIx (zVar 1) (zVar 3)))))
    (zRet (zCall dTuple (zCons (zVar 2) zNil)))))
noncomputable def F__law_named : List D → Sto → Rs D := Fof 0 N__law_named run__law_named
/-- 0 names, 1 row, 2 told, 3 x -/
theorem go__law_named {d0 d1 : D} {S : Sto} {R : XV → Sto → Prop} {Q : D → Sto → Prop} (h : V.X ((zSeq (zSet 2 (zOp dMulC (zLst (zCons (zC (dN 0)) zNil)) (zCall dLen (zCons (zVar 1) zNil))))
    (zSeq (zFor (zRange1 (zCons (zCall dLen (zCons (zVar 1) zNil)) zNil)) (zgName 3) (zPut (zVar 2) (zOp dIx (zVar 0) (zVar 3)) (zOp dIx (zVar 0) (zOp dIx (zVar 1) (zVar 3)))))
    (zRet (zCall dTuple (zCons (zVar 2) zNil))))) [some d0, some d1, none, none] S) (V.FinQ 0 S R Q)) : V.W (F__law_named [d0, d1] S) R Q := V.wf h
abbrev N__law_beside : List Str := ["one", "other", "table", "row"]
noncomputable def run__law_beside : SM :=
    (zSeq (zSet 2 (zLcK .frz [3] (zSrc (zVar 0)) (zgName 3) zYes (zOp dAdd (zVar 3) (zOp dMul (zLst (zCons (zC (.bl false)) zNil)) (zCall dLen (zCons (zVar 1) zNil))))))
    (zRet (zOp dAdd (zVar 2) (zLcK .frz [3] (zSrc (zVar 1)) (zgName 3) zYes (zOp dAdd (zOp dMul (zLst (zCons (zC (.bl false)) zNil)) (zCall dLen (zCons (zVar 0) zNil))) (zVar 3))))))
noncomputable def F__law_beside : List D → Sto → Rs D := Fof 0 N__law_beside run__law_beside
/-- 0 one, 1 other, 2 table, 3 row -/
theorem go__law_beside {d0 d1 : D} {S : Sto} {R : XV → Sto → Prop} {Q : D → Sto → Prop} (h : V.X ((zSeq (zSet 2 (zLcK .frz [3] (zSrc (zVar 0)) (zgName 3) zYes (zOp dAdd (zVar 3) (zOp dMul (zLst (zCons (zC (.bl false)) zNil)) (zCall dLen (zCons (zVar 1) zNil))))))
    (zRet (zOp dAdd (zVar 2) (zLcK .frz [3] (zSrc (zVar 1)) (zgName 3) zYes (zOp dAdd (zOp dMul (zLst (zCons (zC (.bl false)) zNil)) (zCall dLen (zCons (zVar 0) zNil))) (zVar 3)))))) [some d0, some d1, none, none] S) (V.FinQ 0 S R Q)) : V.W (F__law_beside [d0, d1] S) R Q := V.wf h
abbrev N__law_draw : List Str := ["tape", "many", "k", "digit"]
noncomputable def run__law_draw : SM :=
    (zSeq (zIfS (zB (zOp dLt (zVar 1) (zC (.int 2)))) (zRet (zC (.int 0))) zNext)
    (zSeq (zFor (zRange1 (zCons (zC (.int 64)) zNil)) (zgName 2) (zSeq (zIfS (zAnd (zB (zOp dGt (zOp dGetD (zVar 0) (zC (.str "digits"))) (zC (.int 0)))) (zB (zOp dGt (zOp dGetD (zVar 0) (zC (.str "value"))) (zC (.int 1))))) (zSeq (zSet 3 (zOp dMod (zCall dInt (zCons (zOp dGetD (zVar 0) (zC (.str "value"))) zNil)) (zVar 1)))
    (zSeq (zPutD (zVar 0) (zC (.str "digits")) (zOp dSub (zOp dGetD (zVar 0) (zC (.str "digits"))) (zC (.int 1))))
    (zSeq (zPutD (zVar 0) (zC (.str "value")) (zOp dDiv (zOp dGetD (zVar 0) (zC (.str "value"))) (zVar 1)))
    (zRet (zVar 3))))) zNext)
    (zSeq (zIfS (zOr (zB (zOp dGt (zOp dGetD (zVar 0) (zC (.str "mixed"))) (zC (.int 0)))) (zB (zOp dGe (zOp dGetD (zVar 0) (zC (.str "at"))) (zCall dLen (zCons (zOp dGetD (zVar 0) (zC (.str "cells"))) zNil))))) zBrk zNext)
    (zExpr (zCallF 1 F__law_load (zCons (zVar 0) zNil))))))
    (zSeq (zIfS (zB (zOp dGt (zOp dGetD (zVar 0) (zC (.str "mixed"))) (zC (.int 0)))) (zPutD (zVar 0) (zC (.str "mixed")) (zOp dSub (zOp dGetD (zVar 0) (zC (.str "mixed"))) (zC (.int 1)))) zNext)
    (zSeq (zPutD (zVar 0) (zC (.str "salt")) (zOp dMod (zCall dInt (zCons (zOp dAdd (zOp dMul (zOp dGetD (zVar 0) (zC (.str "salt"))) (zC (.int 48271))) (zC (.int 7))) zNil)) (zC (.int 2147483647))))
    (zRet (zOp dMod (zOp dMod (zCall dInt (zCons (zOp dAdd (zOp dMul (zOp dDiv (zOp dGetD (zVar 0) (zC (.str "salt"))) (zC (.int 13))) (zC (.int 69621))) (zC (.int 5))) zNil)) (zC (.int 1000003))) (zVar 1)))))))
noncomputable def F__law_draw : List D → Sto → Rs D := Fof 0 N__law_draw run__law_draw
/-- 0 tape, 1 many, 2 k, 3 digit -/
theorem go__law_draw {d0 d1 : D} {S : Sto} {R : XV → Sto → Prop} {Q : D → Sto → Prop} (h : V.X ((zSeq (zIfS (zB (zOp dLt (zVar 1) (zC (dN 2)))) (zRet (zC (dN 0))) zNext)
    (zSeq (zFor (zRange1 (zCons (zC (dN 64)) zNil)) (zgName 2) (zSeq (zIfS (zAnd (zB (zOp dGt (zOp dGetD (zVar 0) (zC (.str "digits"))) (zC (dN 0)))) (zB (zOp dGt (zOp dGetD (zVar 0) (zC (.str "value"))) (zC (dN 1))))) (zSeq (zSet 3 (zOp dMod (zCall dInt (zCons (zOp dGetD (zVar 0) (zC (.str "value"))) zNil)) (zVar 1)))
    (zSeq (zPutD (zVar 0) (zC (.str "digits")) (zOp dSub (zOp dGetD (zVar 0) (zC (.str "digits"))) (zC (dN 1))))
    (zSeq (zPutD (zVar 0) (zC (.str "value")) (zOp dDiv (zOp dGetD (zVar 0) (zC (.str "value"))) (zVar 1)))
    (zRet (zVar 3))))) zNext)
    (zSeq (zIfS (zOr (zB (zOp dGt (zOp dGetD (zVar 0) (zC (.str "mixed"))) (zC (dN 0)))) (zB (zOp dGe (zOp dGetD (zVar 0) (zC (.str "at"))) (zCall dLen (zCons (zOp dGetD (zVar 0) (zC (.str "cells"))) zNil))))) zBrk zNext)
    (zExpr (zCallF 1 F__law_load (zCons (zVar 0) zNil))))))
    (zSeq (zIfS (zB (zOp dGt (zOp dGetD (zVar 0) (zC (.str "mixed"))) (zC (dN 0)))) (zPutD (zVar 0) (zC (.str "mixed")) (zOp dSub (zOp dGetD (zVar 0) (zC (.str "mixed"))) (zC (dN 1)))) zNext)
    (zSeq (zPutD (zVar 0) (zC (.str "salt")) (zOp dMod (zCall dInt (zCons (zOp dAdd (zOp dMul (zOp dGetD (zVar 0) (zC (.str "salt"))) (zC (dN 48271))) (zC (dN 7))) zNil)) (zC (dN 2147483647))))
    (zRet (zOp dMod (zOp dMod (zCall dInt (zCons (zOp dAdd (zOp dMul (zOp dDiv (zOp dGetD (zVar 0) (zC (.str "salt"))) (zC (dN 13))) (zC (dN 69621))) (zC (dN 5))) zNil)) (zC (dN 1000003))) (zVar 1))))))) [some d0, some d1, none, none] S) (V.FinQ 0 S R Q)) : V.W (F__law_draw [d0, d1] S) R Q := V.wf h
abbrev N__law_traced : List Str := ["up", "row", "total", "one", "x"]
noncomputable def run__law_traced : SM :=
    (zSeq (zSet 2 (zC (.int 0)))
    (zSeq (zFor (zSrc (zCallF 1 F__law_chain_list (zCons (zVar 0) zNil))) (zgName 3) (zIfS (zB (zOp dEq (zLcK .frz [4] (zSrc (zVar 3)) (zgName 4) zYes (zOp dIx (zVar 1) (zVar 4))) (zCall dList (zCons (zVar 3) zNil)))) (zSet 2 (zOp dSub (zOp dAdd (zVar 2) (zC (.int 1))) (zOp dMul (zC (.int 2)) (zCall dInt (zCons (zOp dMod (zCall dInt (zCons (zOp dAdd (zCall dLen (zCons (zVar 3) zNil)) (zC (.int 1))) zNil)) (zC (.int 2))) zNil))))) zNext))
    (zRet (zVar 2))))
noncomputable def F__law_traced : List D → Sto → Rs D := Fof 0 N__law_traced run__law_traced
/-- 0 up, 1 row, 2 total, 3 one, 4 x -/
theorem go__law_traced {d0 d1 : D} {S : Sto} {R : XV → Sto → Prop} {Q : D → Sto → Prop} (h : V.X ((zSeq (zSet 2 (zC (dN 0)))
    (zSeq (zFor (zSrc (zCallF 1 F__law_chain_list (zCons (zVar 0) zNil))) (zgName 3) (zIfS (zB (zOp dEq (zLcK .frz [4] (zSrc (zVar 3)) (zgName 4) zYes (zOp dIx (zVar 1) (zVar 4))) (zCall dList (zCons (zVar 3) zNil)))) (zSet 2 (zOp dSub (zOp dAdd (zVar 2) (zC (dN 1))) (zOp dMul (zC (dN 2)) (zCall dInt (zCons (zOp dMod (zCall dInt (zCons (zOp dAdd (zCall dLen (zCons (zVar 3) zNil)) (zC (dN 1))) zNil)) (zC (dN 2))) zNil))))) zNext))
    (zRet (zVar 2)))) [some d0, some d1, none, none, none] S) (V.FinQ 0 S R Q)) : V.W (F__law_traced [d0, d1] S) R Q := V.wf h
abbrev N_chain_counts : List Str := ["order", "downs", "counts", "ending", "mask", "points", "x"]
noncomputable def run_chain_counts : SM :=
    (zSeq (zSet 1 (zLcK .frz [4] (zSrc (zCallF 1 F_masks_below (zCons (zVar 0) zNil))) (zgName 4) zYes (zCallF 1 F_bits_of (zCons (zVar 4) zNil))))
    (zSeq (zSet 2 (zLstC zNil))
    (zSeq (zSet 3 (zOp dMul (zLst (zCons (zC (.int 1)) zNil)) (zOp dIx (zVar 0) (zC (.int 0)))))
    (zSeq (zWhile (fun _ _ => 100000) (zTru (zCall dAnyI (zCons (zVar 3) zNil))) (zSeq (zExpr (zMethL dAppend (zVar 2) (zCons (zCall dSum (zCons (zVar 3) zNil)) zNil)))
    (zSet 3 (zLcK .frz [5] (zSrc (zVar 1)) (zgName 5) zYes (zCall dSum (zCons (zLcK .frz [6] (zSrc (zVar 5)) (zgName 6) zYes (zOp dIx (zVar 3) (zVar 6))) zNil))))))
    (zRet (zCall dTuple (zCons (zVar 2) zNil)))))))
noncomputable def F_chain_counts : List D → Sto → Rs D := Fof 0 N_chain_counts run_chain_counts
/-- 0 order, 1 downs, 2 counts, 3 ending, 4 mask, 5 points, 6 x -/
theorem go_chain_counts {d0 : D} {S : Sto} {R : XV → Sto → Prop} {Q : D → Sto → Prop} (h : V.X ((zSeq (zSet 1 (zLcK .frz [4] (zSrc (zCallF 1 F_masks_below (zCons (zVar 0) zNil))) (zgName 4) zYes (zCallF 1 F_bits_of (zCons (zVar 4) zNil))))
    (zSeq (zSet 2 (zLstC zNil))
    (zSeq (zSet 3 (zOp dMul (zLst (zCons (zC (dN 1)) zNil)) (zOp dIx (zVar 0) (zC (dN 0)))))
    (zSeq (zWhile (fun _ _ => 100000) (zTru (zCall dAnyI (zCons (zVar 3) zNil))) (zSeq (zExpr (zMethL dAppend (zVar 2) (zCons (zCall dSum (zCons (zVar 3) zNil)) zNil)))
    (zSet 3 (zLcK .frz [5] (zSrc (zVar 1)) (zgName 5) zYes (zCall dSum (zCons (zLcK .frz [6] (zSrc (zVar 5)) (zgName 6) zYes (zOp dIx (zVar 3) (zVar 6))) zNil))))))
    (zRet (zCall dTuple (zCons (zVar 2) zNil))))))) [some d0, none, none, none, none, none, none] S) (V.FinQ 0 S R Q)) : V.W (F_chain_counts [d0] S) R Q := V.wf h
abbrev N__law_shuffled : List Str := ["tape", "many", "left", "k"]
noncomputable def run__law_shuffled : SM :=
    (zSeq (zSet 2 (zRgA .cel (zVar 1)))
    (zRet (zLcK .frz [3] (zRange1 (zCons (zCall dLen (zCons (zVar 2) zNil)) zNil)) (zgName 3) zYes (zMethL dPopAt (zVar 2) (zCons (zCallF 2 F__law_draw (zCons (zVar 0) (zCons (zCall dLen (zCons (zVar 2) zNil)) zNil))) zNil)))))
noncomputable def F__law_shuffled : List D → Sto → Rs D := Fof 0 N__law_shuffled run__law_shuffled
/-- 0 tape, 1 many, 2 left, 3 k -/
theorem go__law_shuffled {d0 d1 : D} {S : Sto} {R : XV → Sto → Prop} {Q : D → Sto → Prop} (h : V.X ((zSeq (zSet 2 (zRgA .cel (zVar 1)))
    (zRet (zLcK .frz [3] (zRange1 (zCons (zCall dLen (zCons (zVar 2) zNil)) zNil)) (zgName 3) zYes (zMethL dPopAt (zVar 2) (zCons (zCallF 2 F__law_draw (zCons (zVar 0) (zCons (zCall dLen (zCons (zVar 2) zNil)) zNil))) zNil))))) [some d0, some d1, none, none] S) (V.FinQ 0 S R Q)) : V.W (F__law_shuffled [d0, d1] S) R Q := V.wf h
abbrev N__law_drawn : List Str := ["tape", "most", "many", "way", "links", "rare", "levels", "x", "half", "k", "y"]
noncomputable def run__law_drawn : SM :=
    (zSeq (zSet 2 (zCallF 2 F__law_draw (zCons (zVar 0) (zCons (zOp dAdd (zVar 1) (zC (.int 1))) zNil))))
    (zSeq (zSet 3 (zCallF 2 F__law_draw (zCons (zVar 0) (zCons (zC (.int 4)) zNil))))
    (zSeq (zSet 4 (zLstC zNil))
    (zSeq (zIfS (zB (zOp dEq (zVar 3) (zC (.int 3)))) (zSeq (zSet 8 (zOp dDiv (zVar 2) (zC (.int 2))))
    (zSeq (zFor (zRange1 (zCons (zVar 8) zNil)) (zgName 9) (zSet 4 (zOp dAdd (zVar 4) (zLst (zCons (zTup (zCons (zVar 9) (zCons (zOp dAdd (zVar 8) (zVar 9)) zNil))) (zCons (zTup (zCons (zOp dMod (zCall dInt (zCons (zOp dAdd (zVar 9) (zC (.int 1))) zNil)) (zVar 8)) (zCons (zOp dAdd (zVar 8) (zVar 9)) zNil))) zNil))))))
    (zRet (zCallF 2 F__law_closed (zCons (zVar 2) (zCons (zVar 4) zNil)))))) zNext)
    (zSeq (zSet 5 (zOp dAdd (zC (.int 2)) (zCallF 2 F__law_draw (zCons (zVar 0) (zCons (zC (.int 4)) zNil)))))
    (zSeq (zSet 6 (zOp dMul (zLst (zCons (zC (.int 0)) zNil)) (zVar 2)))
    (zSeq (zIfS (zB (zOp dEq (zVar 3) (zC (.int 2)))) (zSet 6 (zLcK .frz [9] (zRange1 (zCons (zVar 2) zNil)) (zgName 9) zYes (zCallF 2 F__law_draw (zCons (zVar 0) (zCons (zC (.int 4)) zNil))))) zNext)
    (zSeq (zFor (zRange1 (zCons (zVar 2) zNil)) (zgName 7) (zFor (zRange2 (zCons (zOp dAdd (zVar 7) (zC (.int 1))) (zCons (zVar 2) zNil))) (zgName 10) (zSeq (zIfS (zAnd (zB (zOp dEq (zVar 3) (zC (.int 2)))) (zAnd (zB (zOp dLt (zOp dIx (zVar 6) (zVar 7)) (zOp dIx (zVar 6) (zVar 10)))) (zB (zOp dGt (zCallF 2 F__law_draw (zCons (zVar 0) (zCons (zC (.int 4)) zNil))) (zC (.int 0)))))) (zExpr (zMethL dAppend (zVar 4) (zCons (zTup (zCons (zVar 7) (zCons (zVar 10) zNil))) zNil))) zNext)
    (zIfS (zAnd (zB (zOp dLt (zVar 3) (zC (.int 2)))) (zB (zOp dEq (zCallF 2 F__law_draw (zCons (zVar 0) (zCons (zVar 5) zNil))) (zC (.int 0))))) (zExpr (zMethL dAppend (zVar 4) (zCons (zTup (zCons (zVar 7) (zCons (zVar 10) zNil))) zNil))) zNext))))
    (zRet (zCallF 2 F__law_closed (zCons (zVar 2) (zCons (zVar 4) zNil))))))))))))
noncomputable def F__law_drawn : List D → Sto → Rs D := Fof 0 N__law_drawn run__law_drawn
/-- 0 tape, 1 most, 2 many, 3 way, 4 links, 5 rare, 6 levels, 7 x, 8 half, 9 k, 10 y -/
theorem go__law_drawn {d0 d1 : D} {S : Sto} {R : XV → Sto → Prop} {Q : D → Sto → Prop} (h : V.X ((zSeq (zSet 2 (zCallF 2 F__law_draw (zCons (zVar 0) (zCons (zOp dAdd (zVar 1) (zC (dN 1))) zNil))))
    (zSeq (zSet 3 (zCallF 2 F__law_draw (zCons (zVar 0) (zCons (zC (dN 4)) zNil))))
    (zSeq (zSet 4 (zLstC zNil))
    (zSeq (zIfS (zB (zOp dEq (zVar 3) (zC (dN 3)))) (zSeq (zSet 8 (zOp dDiv (zVar 2) (zC (dN 2))))
    (zSeq (zFor (zRange1 (zCons (zVar 8) zNil)) (zgName 9) (zSet 4 (zOp dAdd (zVar 4) (zLst (zCons (zTup (zCons (zVar 9) (zCons (zOp dAdd (zVar 8) (zVar 9)) zNil))) (zCons (zTup (zCons (zOp dMod (zCall dInt (zCons (zOp dAdd (zVar 9) (zC (dN 1))) zNil)) (zVar 8)) (zCons (zOp dAdd (zVar 8) (zVar 9)) zNil))) zNil))))))
    (zRet (zCallF 2 F__law_closed (zCons (zVar 2) (zCons (zVar 4) zNil)))))) zNext)
    (zSeq (zSet 5 (zOp dAdd (zC (dN 2)) (zCallF 2 F__law_draw (zCons (zVar 0) (zCons (zC (dN 4)) zNil)))))
    (zSeq (zSet 6 (zOp dMul (zLst (zCons (zC (dN 0)) zNil)) (zVar 2)))
    (zSeq (zIfS (zB (zOp dEq (zVar 3) (zC (dN 2)))) (zSet 6 (zLcK .frz [9] (zRange1 (zCons (zVar 2) zNil)) (zgName 9) zYes (zCallF 2 F__law_draw (zCons (zVar 0) (zCons (zC (dN 4)) zNil))))) zNext)
    (zSeq (zFor (zRange1 (zCons (zVar 2) zNil)) (zgName 7) (zFor (zRange2 (zCons (zOp dAdd (zVar 7) (zC (dN 1))) (zCons (zVar 2) zNil))) (zgName 10) (zSeq (zIfS (zAnd (zB (zOp dEq (zVar 3) (zC (dN 2)))) (zAnd (zB (zOp dLt (zOp dIx (zVar 6) (zVar 7)) (zOp dIx (zVar 6) (zVar 10)))) (zB (zOp dGt (zCallF 2 F__law_draw (zCons (zVar 0) (zCons (zC (dN 4)) zNil))) (zC (dN 0)))))) (zExpr (zMethL dAppend (zVar 4) (zCons (zTup (zCons (zVar 7) (zCons (zVar 10) zNil))) zNil))) zNext)
    (zIfS (zAnd (zB (zOp dLt (zVar 3) (zC (dN 2)))) (zB (zOp dEq (zCallF 2 F__law_draw (zCons (zVar 0) (zCons (zVar 5) zNil))) (zC (dN 0))))) (zExpr (zMethL dAppend (zVar 4) (zCons (zTup (zCons (zVar 7) (zCons (zVar 10) zNil))) zNil))) zNext))))
    (zRet (zCallF 2 F__law_closed (zCons (zVar 2) (zCons (zVar 4) zNil)))))))))))) [some d0, some d1, none, none, none, none, none, none, none, none, none] S) (V.FinQ 0 S R Q)) : V.W (F__law_drawn [d0, d1] S) R Q := V.wf h
abbrev N__law_map : List Str := ["tape", "up", "many", "row", "k", "x", "value"]
noncomputable def run__law_map : SM :=
    (zSeq (zSet 2 (zCall dLen (zCons (zVar 1) zNil)))
    (zSeq (zSet 3 (zRgA .cel (zVar 2)))
    (zSeq (zIfS (zAnd (zB (zOp dGt (zVar 2) (zC (.int 0)))) (zB (zOp dEq (zCallF 2 F__law_draw (zCons (zVar 0) (zCons (zC (.int 3)) zNil))) (zC (.int 0))))) (zSet 3 (zOp dMulC (zLst (zCons (zCallF 2 F__law_draw (zCons (zVar 0) (zCons (zVar 2) zNil))) zNil)) (zVar 2))) zNext)
    (zSeq (zFor (zRange1 (zCons (zCallF 2 F__law_draw (zCons (zVar 0) (zCons (zOp dAdd (zOp dMul (zC (.int 4)) (zVar 2)) (zC (.int 1))) zNil))) zNil)) (zgName 4) (zSeq (zSet 5 (zCallF 2 F__law_draw (zCons (zVar 0) (zCons (zVar 2) zNil))))
    (zSeq (zSet 6 (zCallF 2 F__law_draw (zCons (zVar 0) (zCons (zVar 2) zNil))))
    (zIfS (zTru (zCallF 4 F__law_fits (zCons (zVar 1) (zCons (zVar 3) (zCons (zVar 5) (zCons (zVar 6) zNil)))))) (zPut (zVar 3) (zVar 5) (zVar 6)) zNext))))
    (zRet (zVar 3))))))
noncomputable def F__law_map : List D → Sto → Rs D := Fof 1 N__law_map run__law_map
/-- 0 tape, 1 up, 2 many, 3 row, 4 k, 5 x, 6 value -/
theorem go__law_map {d0 d1 : D} {S : Sto} {R : XV → Sto → Prop} {Q : D → Sto → Prop} (h : V.X ((zSeq (zSet 2 (zCall dLen (zCons (zVar 1) zNil)))
    (zSeq (zSet 3 (zRgA .cel (zVar 2)))
    (zSeq (zIfS (zAnd (zB (zOp dGt (zVar 2) (zC (dN 0)))) (zB (zOp dEq (zCallF 2 F__law_draw (zCons (zVar 0) (zCons (zC (dN 3)) zNil))) (zC (dN 0))))) (zSet 3 (zOp dMulC (zLst (zCons (zCallF 2 F__law_draw (zCons (zVar 0) (zCons (zVar 2) zNil))) zNil)) (zVar 2))) zNext)
    (zSeq (zFor (zRange1 (zCons (zCallF 2 F__law_draw (zCons (zVar 0) (zCons (zOp dAdd (zOp dMul (zC (dN 4)) (zVar 2)) (zC (dN 1))) zNil))) zNil)) (zgName 4) (zSeq (zSet 5 (zCallF 2 F__law_draw (zCons (zVar 0) (zCons (zVar 2) zNil))))
    (zSeq (zSet 6 (zCallF 2 F__law_draw (zCons (zVar 0) (zCons (zVar 2) zNil))))
    (zIfS (zTru (zCallF 4 F__law_fits (zCons (zVar 1) (zCons (zVar 3) (zCons (zVar 5) (zCons (zVar 6) zNil)))))) (zPut (zVar 3) (zVar 5) (zVar 6)) zNext))))
    (zRet (zVar 3)))))) [some d0, some d1, none, none, none, none, none] S) (V.FinQ 1 S R Q)) : V.W (F__law_map [d0, d1] S) R Q := V.wf h
abbrev N_euler : List Str := ["order", "counts"]
noncomputable def run_euler : SM :=
    (zSeq (zSet 1 (zCallF 1 F_chain_counts (zCons (zVar 0) zNil)))
    (zRet (zOp dSub (zCall dSumT (zCons (zStep2 0 (zVar 1)) zNil)) (zCall dSumT (zCons (zStep2 1 (zVar 1)) zNil)))))
noncomputable def F_euler : List D → Sto → Rs D := Fof 0 N_euler run_euler
/-- 0 order, 1 counts -/
theorem go_euler {d0 : D} {S : Sto} {R : XV → Sto → Prop} {Q : D → Sto → Prop} (h : V.X ((zSeq (zSet 1 (zCallF 1 F_chain_counts (zCons (zVar 0) zNil)))
    (zRet (zOp dSub (zCall dSumT (zCons (zStep2 0 (zVar 1)) zNil)) (zCall dSumT (zCons (zStep2 1 (zVar 1)) zNil))))) [some d0, none] S) (V.FinQ 0 S R Q)) : V.W (F_euler [d0] S) R Q := V.wf h
abbrev N_fixed_points : List Str := ["order", "row", "x"]
noncomputable def run_fixed_points : SM :=
    (zRet (zTG [2] (zRange1 (zCons (zOp dIx (zVar 0) (zC (.int 0))) zNil)) (zgName 2) (zB (zOp dEq (zOp dIx (zVar 1) (zVar 2)) (zVar 2))) (zVar 2)))
noncomputable def F_fixed_points : List D → Sto → Rs D := Fof 0 N_fixed_points run_fixed_points
/-- 0 order, 1 row, 2 x -/
theorem go_fixed_points {d0 d1 : D} {S : Sto} {R : XV → Sto → Prop} {Q : D → Sto → Prop} (h : V.X ((zRet (zTG [2] (zRange1 (zCons (zOp dIx (zVar 0) (zC (dN 0))) zNil)) (zgName 2) (zB (zOp dEq (zOp dIx (zVar 1) (zVar 2)) (zVar 2))) (zVar 2))) [some d0, some d1, none] S) (V.FinQ 0 S R Q)) : V.W (F_fixed_points [d0, d1] S) R Q := V.wf h
abbrev N__law_same : List Str := ["actual", "due", "k"]
noncomputable def run__law_same (F__law_same : List D → Sto → Rs D) : SM :=
    (zSeq (zIfS (zTru (zIsi ["tuple"] (zVar 1))) (zSeq (zIfS (zOr (zNot (zTru (zIsi ["tuple"] (zVar 0)))) (zB (zOp dNe (zCall dLen (zCons (zVar 0) zNil)) (zCall dLen (zCons (zVar 1) zNil))))) (zRet (zC (.bl false))) zNext)
    (zSeq (zFor (zRange1 (zCons (zCall dLen (zCons (zVar 1) zNil)) zNil)) (zgName 2) (zIfS (zNot (zTru (zCallF 2 F__law_same (zCons (zOp dIx (zVar 0) (zVar 2)) (zCons (zOp dIx (zVar 1) (zVar 2)) zNil))))) (zRet (zC (.bl false))) zNext))
    (zRet (zC (.bl true))))) zNext)
    (zRet (zAndV (zIsi ["int"] (zVar 0)) (zAndV (zNotV (zIsi ["bool"] (zVar 0))) (zOp dEq (zVar 0) (zVar 1))))))
noncomputable def F__law_same : Nat → List D → Sto → Rs D
  | 0 => fun _ _ => .stk
  | k + 1 => Fof 0 N__law_same (run__law_same (F__law_same k))
/-- 0 actual, 1 due, 2 k -/
theorem go__law_same {F : List D → Sto → Rs D} {d0 d1 : D} {S : Sto} {R : XV → Sto → Prop} {Q : D → Sto → Prop} (h : V.X ((fun F__law_same => (zSeq (zIfS (zTru (zIsi ["tuple"] (zVar 1))) (zSeq (zIfS (zOr (zNot (zTru (zIsi ["tuple"] (zVar 0)))) (zB (zOp dNe (zCall dLen (zCons (zVar 0) zNil)) (zCall dLen (zCons (zVar 1) zNil))))) (zRet (zC (.bl false))) zNext)
    (zSeq (zFor (zRange1 (zCons (zCall dLen (zCons (zVar 1) zNil)) zNil)) (zgName 2) (zIfS (zNot (zTru (zCallF 2 F__law_same (zCons (zOp dIx (zVar 0) (zVar 2)) (zCons (zOp dIx (zVar 1) (zVar 2)) zNil))))) (zRet (zC (.bl false))) zNext))
    (zRet (zC (.bl true))))) zNext)
    (zRet (zAndV (zIsi ["int"] (zVar 0)) (zAndV (zNotV (zIsi ["bool"] (zVar 0))) (zOp dEq (zVar 0) (zVar 1))))))) F [some d0, some d1, none] S) (V.FinQ 0 S R Q)) : V.W (Fof 0 N__law_same (run__law_same F) [d0, d1] S) R Q := V.wf h
abbrev N_lefschetz : List Str := ["order", "row"]
noncomputable def run_lefschetz : SM :=
    (zRet (zCallF 1 F_euler (zCons (zCallF 2 F_induced (zCons (zVar 0) (zCons (zCallF 2 F_fixed_points (zCons (zVar 0) (zCons (zVar 1) zNil))) zNil))) zNil)))
noncomputable def F_lefschetz : List D → Sto → Rs D := Fof 0 N_lefschetz run_lefschetz
/-- 0 order, 1 row -/
theorem go_lefschetz {d0 d1 : D} {S : Sto} {R : XV → Sto → Prop} {Q : D → Sto → Prop} (h : V.X ((zRet (zCallF 1 F_euler (zCons (zCallF 2 F_induced (zCons (zVar 0) (zCons (zCallF 2 F_fixed_points (zCons (zVar 0) (zCons (zVar 1) zNil))) zNil))) zNil))) [some d0, some d1] S) (V.FinQ 0 S R Q)) : V.W (F_lefschetz [d0, d1] S) R Q := V.wf h
abbrev N__law_map_right : List Str := ["tape", "up", "row", "names", "made", "told", "due", "total", "same", "x"]
noncomputable def run__law_map_right : SM :=
    (zSeq (zSet 3 (zCallF 2 F__law_shuffled (zCons (zVar 0) (zCons (zCall dLen (zCons (zVar 1) zNil)) zNil))))
    (zSeq (zSet 4 (zCallF 2 F__law_told (zCons (zVar 1) (zCons (zVar 3) zNil))))
    (zSeq (zSet 5 (zCallF 2 F__law_named (zCons (zVar 3) (zCons (zVar 2) zNil))))
    (zSeq (zSet 6 (zCall dTuple (zCons (zCall dSortI (zCons (zLcK .frz [9] (zRange1 (zCons (zCall dLen (zCons (zVar 1) zNil)) zNil)) (zgName 9) (zB (zOp dEq (zOp dIx (zVar 2) (zVar 9)) (zVar 9))) (zOp dIx (zVar 3) (zVar 9))) zNil)) zNil)))
    (zSeq (zIfS (zOr (zNot (zTru (zCallF 2 (F__law_same 8) (zCons (zCallF 2 F_fixed_points (zCons (zVar 4) (zCons (zVar 5) zNil))) (zCons (zVar 6) zNil))))) (zNot (zTru (zCallF 2 (F__law_same 8) (zCons (zCallK 2 F_fixed_points [1, 0] zNil (zCons (zVar 5) (zCons (zVar 4) zNil))) (zCons (zVar 6) zNil)))))) (zRet (zC (.bl false))) zNext)
    (zSeq (zSet 7 (zCallF 2 F__law_traced (zCons (zVar 1) (zCons (zVar 2) zNil))))
    (zSeq (zIfS (zOr (zNot (zTru (zCallF 2 (F__law_same 8) (zCons (zCallF 2 F_lefschetz (zCons (zVar 4) (zCons (zVar 5) zNil))) (zCons (zVar 7) zNil))))) (zNot (zTru (zCallF 2 (F__law_same 8) (zCons (zCallK 2 F_lefschetz [1, 0] zNil (zCons (zVar 5) (zCons (zVar 4) zNil))) (zCons (zVar 7) zNil)))))) (zRet (zC (.bl false))) zNext)
    (zSeq (zSet 8 (zCall dTuple (zCons (zRgA .lst (zCall dLen (zCons (zVar 1) zNil))) zNil)))
    (zSeq (zSet 7 (zCallF 2 F__law_traced (zCons (zVar 1) (zCons (zVar 8) zNil))))
    (zSeq (zIfS (zOr (zNot (zTru (zCallF 2 (F__law_same 8) (zCons (zCallF 2 F_lefschetz (zCons (zVar 4) (zCons (zVar 8) zNil))) (zCons (zVar 7) zNil))))) (zNot (zTru (zCallF 2 (F__law_same 8) (zCons (zCallF 1 F_euler (zCons (zVar 4) zNil)) (zCons (zVar 7) zNil)))))) (zRet (zC (.bl false))) zNext)
    (zRet (zCallF 2 (F__law_same 8) (zCons (zCallF 2 F_fixed_points (zCons (zVar 4) (zCons (zVar 8) zNil))) (zCons (zVar 8) zNil))))))))))))))
noncomputable def F__law_map_right : List D → Sto → Rs D := Fof 0 N__law_map_right run__law_map_right
/-- 0 tape, 1 up, 2 row, 3 names, 4 made, 5 told, 6 due, 7 total, 8 same, 9 x -/
theorem go__law_map_right {d0 d1 d2 : D} {S : Sto} {R : XV → Sto → Prop} {Q : D → Sto → Prop} (h : V.X ((zSeq (zSet 3 (zCallF 2 F__law_shuffled (zCons (zVar 0) (zCons (zCall dLen (zCons (zVar 1) zNil)) zNil))))
    (zSeq (zSet 4 (zCallF 2 F__law_told (zCons (zVar 1) (zCons (zVar 3) zNil))))
    (zSeq (zSet 5 (zCallF 2 F__law_named (zCons (zVar 3) (zCons (zVar 2) zNil))))
    (zSeq (zSet 6 (zCall dTuple (zCons (zCall dSortI (zCons (zLcK .frz [9] (zRange1 (zCons (zCall dLen (zCons (zVar 1) zNil)) zNil)) (zgName 9) (zB (zOp dEq (zOp dIx (zVar 2) (zVar 9)) (zVar 9))) (zOp dIx (zVar 3) (zVar 9))) zNil)) zNil)))
    (zSeq (zIfS (zOr (zNot (zTru (zCallF 2 (F__law_same 8) (zCons (zCallF 2 F_fixed_points (zCons (zVar 4) (zCons (zVar 5) zNil))) (zCons (zVar 6) zNil))))) (zNot (zTru (zCallF 2 (F__law_same 8) (zCons (zCallK 2 F_fixed_points [1, 0] zNil (zCons (zVar 5) (zCons (zVar 4) zNil))) (zCons (zVar 6) zNil)))))) (zRet (zC (.bl false))) zNext)
    (zSeq (zSet 7 (zCallF 2 F__law_traced (zCons (zVar 1) (zCons (zVar 2) zNil))))
    (zSeq (zIfS (zOr (zNot (zTru (zCallF 2 (F__law_same 8) (zCons (zCallF 2 F_lefschetz (zCons (zVar 4) (zCons (zVar 5) zNil))) (zCons (zVar 7) zNil))))) (zNot (zTru (zCallF 2 (F__law_same 8) (zCons (zCallK 2 F_lefschetz [1, 0] zNil (zCons (zVar 5) (zCons (zVar 4) zNil))) (zCons (zVar 7) zNil)))))) (zRet (zC (.bl false))) zNext)
    (zSeq (zSet 8 (zCall dTuple (zCons (zRgA .lst (zCall dLen (zCons (zVar 1) zNil))) zNil)))
    (zSeq (zSet 7 (zCallF 2 F__law_traced (zCons (zVar 1) (zCons (zVar 8) zNil))))
    (zSeq (zIfS (zOr (zNot (zTru (zCallF 2 (F__law_same 8) (zCons (zCallF 2 F_lefschetz (zCons (zVar 4) (zCons (zVar 8) zNil))) (zCons (zVar 7) zNil))))) (zNot (zTru (zCallF 2 (F__law_same 8) (zCons (zCallF 1 F_euler (zCons (zVar 4) zNil)) (zCons (zVar 7) zNil)))))) (zRet (zC (.bl false))) zNext)
    (zRet (zCallF 2 (F__law_same 8) (zCons (zCallF 2 F_fixed_points (zCons (zVar 4) (zCons (zVar 8) zNil))) (zCons (zVar 8) zNil)))))))))))))) [some d0, some d1, some d2, none, none, none, none, none, none, none] S) (V.FinQ 0 S R Q)) : V.W (F__law_map_right [d0, d1, d2] S) R Q := V.wf h
abbrev N_law : List Str := ["script", "tape", "up", "k", "half", "row", "double", "value"]
noncomputable def run_law : SM :=
    (zSeq (zSet 1 (zCallF 1 F__law_tape (zCons (zVar 0) zNil)))
    (zSeq (zSet 2 (zCallF 2 F__law_drawn (zCons (zVar 1) (zCons (zC (.int 8)) zNil))))
    (zSeq (zFor (zRange1 (zCons (zC (.int 3)) zNil)) (zgName 3) (zIfS (zNot (zTru (zCallF 3 F__law_map_right (zCons (zVar 1) (zCons (zVar 2) (zCons (zCallF 2 F__law_map (zCons (zVar 1) (zCons (zVar 2) zNil))) zNil)))))) (zRet (zC (.bl false))) zNext))
    (zSeq (zSet 4 (zCallF 2 F__law_drawn (zCons (zVar 1) (zCons (zC (.int 4)) zNil))))
    (zSeq (zSet 5 (zOp dAdd (zLcK .frz [7] (zSrc (zCallF 2 F__law_map (zCons (zVar 1) (zCons (zVar 4) zNil)))) (zgName 7) zYes (zOp dAdd (zCall dLen (zCons (zVar 4) zNil)) (zVar 7))) (zCallF 2 F__law_map (zCons (zVar 1) (zCons (zVar 4) zNil)))))
    (zSeq (zSet 6 (zCallF 2 F__law_beside (zCons (zVar 4) (zCons (zVar 4) zNil))))
    (zSeq (zIfS (zNot (zTru (zCallF 3 F__law_map_right (zCons (zVar 1) (zCons (zVar 6) (zCons (zVar 5) zNil)))))) (zRet (zC (.bl false))) zNext)
    (zSeq (zSet 5 (zCallF 2 F__law_map (zCons (zVar 1) (zCons (zVar 4) zNil))))
    (zRet (zCallF 3 F__law_map_right (zCons (zVar 1) (zCons (zVar 6) (zCons (zOp dAdd (zVar 5) (zCallF 2 F__law_map (zCons (zVar 1) (zCons (zVar 4) zNil)))) zNil)))))))))))))
noncomputable def F_law : List D → Sto → Rs D := Fof 0 N_law run_law
/-- 0 script, 1 tape, 2 up, 3 k, 4 half, 5 row, 6 double, 7 value -/
theorem go_law {d0 : D} {S : Sto} {R : XV → Sto → Prop} {Q : D → Sto → Prop} (h : V.X ((zSeq (zSet 1 (zCallF 1 F__law_tape (zCons (zVar 0) zNil)))
    (zSeq (zSet 2 (zCallF 2 F__law_drawn (zCons (zVar 1) (zCons (zC (dN 8)) zNil))))
    (zSeq (zFor (zRange1 (zCons (zC (dN 3)) zNil)) (zgName 3) (zIfS (zNot (zTru (zCallF 3 F__law_map_right (zCons (zVar 1) (zCons (zVar 2) (zCons (zCallF 2 F__law_map (zCons (zVar 1) (zCons (zVar 2) zNil))) zNil)))))) (zRet (zC (.bl false))) zNext))
    (zSeq (zSet 4 (zCallF 2 F__law_drawn (zCons (zVar 1) (zCons (zC (dN 4)) zNil))))
    (zSeq (zSet 5 (zOp dAdd (zLcK .frz [7] (zSrc (zCallF 2 F__law_map (zCons (zVar 1) (zCons (zVar 4) zNil)))) (zgName 7) zYes (zOp dAdd (zCall dLen (zCons (zVar 4) zNil)) (zVar 7))) (zCallF 2 F__law_map (zCons (zVar 1) (zCons (zVar 4) zNil)))))
    (zSeq (zSet 6 (zCallF 2 F__law_beside (zCons (zVar 4) (zCons (zVar 4) zNil))))
    (zSeq (zIfS (zNot (zTru (zCallF 3 F__law_map_right (zCons (zVar 1) (zCons (zVar 6) (zCons (zVar 5) zNil)))))) (zRet (zC (.bl false))) zNext)
    (zSeq (zSet 5 (zCallF 2 F__law_map (zCons (zVar 1) (zCons (zVar 4) zNil))))
    (zRet (zCallF 3 F__law_map_right (zCons (zVar 1) (zCons (zVar 6) (zCons (zOp dAdd (zVar 5) (zCallF 2 F__law_map (zCons (zVar 1) (zCons (zVar 4) zNil)))) zNil))))))))))))) [some d0, none, none, none, none, none, none, none] S) (V.FinQ 0 S R Q)) : V.W (F_law [d0] S) R Q := V.wf h
end K58

namespace K58
open PySem L2 Z V K06
open PySem.Spec PyProof.Rows
variable [Tabs]
set_option synthInstance.maxHeartbeats 0
set_option synthInstance.maxSize 1000000
local macro_rules | `(tactic| decreasing_trivial_pre_omega) => `(tactic| first
  | (with_reducible refine E1.imp ?_)
  | ((with_reducible refine rng1_n ?_ ?_); omega)
  | ((with_reducible refine rng2_n ?_ ?_ ?_); omega; omega)
  | ((with_reducible refine o_subN ?_ ?_); omega)
  | ((with_reducible refine o_mulN ?_ ?_); omega)
  | ((with_reducible refine o_divN ?_ ?_ ?_); omega; omega)
  | ((with_reducible refine o_modN ?_ ?_); omega)
  | ((with_reducible refine o_shl1 ?_ ?_); omega)
  | ((with_reducible refine ix_rngL ?_ ?_); omega)
  | ((with_reducible refine ix_tab ?_ ?_); omega)
  | ((with_reducible refine ix_mapL ?_ ?_); omega)
  | ((with_reducible refine ix_mapT ?_ ?_); omega)
  | ((with_reducible refine o_modIN ?_ ?_); omega)
  | ((with_reducible refine o_divIN ?_ ?_ ?_); omega; omega)
  | ((with_reducible refine o_mulIN ?_ ?_); omega)
  | ((with_reducible refine o_mulNI ?_ ?_); omega)
  | ((with_reducible refine o_mulNN ?_ ?_); omega)
  | ((with_reducible refine o_mul1 ?_ ?_); omega)
  | ((with_reducible refine o_mulC ?_ ?_); omega)
  | ((with_reducible refine br_dt ?_ ?_); omega)
  | ((with_reducible refine br_df ?_ ?_); omega)
  | ((with_reducible refine o_addT ?_ ?_); (focus (simp [bigN]; done)))
  | ((with_reducible refine o_addL ?_ ?_); (focus (simp [bigN]; done)))
  | ((with_reducible refine br_dt ?_ ?_); exact rfl)
  | ((with_reducible refine br_df ?_ ?_); exact Bool.false_ne_true)
  | ((with_reducible refine br_df ?_ ?_); exact (fun h => Bool.false_ne_true h.symm))
  | ((with_reducible refine w_xis_t ?_ ?_); decide +kernel)
  | ((with_reducible refine w_xis_f ?_ ?_); decide +kernel)
  | ((with_reducible refine w_xf1 ?_ ?_); decide +kernel)
  | ((with_reducible refine tryq_t ?_ ?_ ?_); (focus (simp; done)); decide +kernel; dsimp only [List.set])
  | ((with_reducible refine tryq_f ?_ ?_ ?_); (focus (simp; done)); decide +kernel))
/-- what the tape holds -/
structure Tp where
  cs : List Int
  at_ : Nat
  va : Nat
  di : Nat
  mi : Nat
  sa : Nat
def tpK : List Key := [.inr "cells", .inr "at", .inr "value", .inr "digits", .inr "mixed", .inr "salt"]
def stT (t : Tp) (B : Sto) : Sto := .dct tpK [.lst (t.cs.map D.int), dN t.at_, dN t.va, dN t.di, dN t.mi, dN t.sa] :: B
def KT : KA where
  ok A := ∃ t, A = stT t []
  j := 1
  len A h := by obtain ⟨t, rfl⟩ := h; rfl
  cl A k h hk c hc := by
    obtain ⟨t, rfl⟩ := h
    unfold stT at hc
    simp only [List.mem_cons, List.not_mem_nil, or_false] at hc
    subst hc
    exact ⟨cls_map (f := D.int) (fun _ => trivial) _, trivial, trivial, trivial, trivial, trivial, trivial⟩
section
variable {t t' : Tp} {cs : List Int} {n p j a v d m s w : Nat} {B L S : Sto} {x : C} {e e1 : D} {R : XV → Sto → Prop} {Q : D → Sto → Prop} {K : Sto → Prop} {fu : Nat} {xs : List D}
theorem stT_L : stT t B ++ L = stT t (B ++ L) := rfl
theorem ktT : KT.ok (stT t []) := ⟨_, rfl⟩
theorem fin_t0 (hd : D.cl (B.length + 1) e) (k : Q e (stT t' B)) : FinQ 0 (stT t B) R Q (.ret e) (stT t' B) := fin_a0 (K := KT) ktT ktT hd k
theorem fin_tL (hd : D.cl (B.length + 1) e) (k : Q e (stT t' B)) : FinQ 0 (stT t B) R Q (.ret e) (stT t' (B ++ L)) := fin_aL (K := KT) ktT ktT hd k
theorem t_at (h : B.length + 1 = p) : (stT t (B ++ L))[p + j]? = L[j]? := by
  unfold stT
  rw [← h, show B.length + 1 + j = (B.length + j) + 1 by omega, List.getElem?_cons_succ, List.getElem?_append_right (by omega)]
  congr 1; omega
theorem t_set (h : B.length + 1 = p) : (stT t (B ++ L)).set (p + j) x = stT t (B ++ L.set j x) := by
  unfold stT
  rw [← h, show B.length + 1 + j = (B.length + j) + 1 by omega, List.set_cons_succ, List.set_append_right _ _ (by omega)]
  congr 3; omega
theorem t_set0 (h : B.length + 1 = p) : (stT t (B ++ L)).set p x = stT t (B ++ L.set 0 x) := t_set (j := 0) h
theorem t_len (h : B.length + 1 = p) : (stT t B).length = p := by unfold stT; simp [h]
theorem d_g0 (k : Q (.lst (cs.map D.int)) (stT ⟨cs, a, v, d, m, s⟩ B)) : W (dGetD (.ptr 0) (.str "cells") (stT ⟨cs, a, v, d, m, s⟩ B)) R Q := o_getD (i := 0) rfl (by decide +kernel) rfl k
theorem d_g1 (k : Q (dN a) (stT ⟨cs, a, v, d, m, s⟩ B)) : W (dGetD (.ptr 0) (.str "at") (stT ⟨cs, a, v, d, m, s⟩ B)) R Q := o_getD (i := 1) rfl (by decide +kernel) rfl k
theorem d_g2 (k : Q (dN v) (stT ⟨cs, a, v, d, m, s⟩ B)) : W (dGetD (.ptr 0) (.str "value") (stT ⟨cs, a, v, d, m, s⟩ B)) R Q := o_getD (i := 2) rfl (by decide +kernel) rfl k
theorem d_g3 (k : Q (dN d) (stT ⟨cs, a, v, d, m, s⟩ B)) : W (dGetD (.ptr 0) (.str "digits") (stT ⟨cs, a, v, d, m, s⟩ B)) R Q := o_getD (i := 3) rfl (by decide +kernel) rfl k
theorem d_g4 (k : Q (dN m) (stT ⟨cs, a, v, d, m, s⟩ B)) : W (dGetD (.ptr 0) (.str "mixed") (stT ⟨cs, a, v, d, m, s⟩ B)) R Q := o_getD (i := 4) rfl (by decide +kernel) rfl k
theorem d_g5 (k : Q (dN s) (stT ⟨cs, a, v, d, m, s⟩ B)) : W (dGetD (.ptr 0) (.str "salt") (stT ⟨cs, a, v, d, m, s⟩ B)) R Q := o_getD (i := 5) rfl (by decide +kernel) rfl k
theorem d_p1 (k : K (stT ⟨cs, w, v, d, m, s⟩ B)) : PutQ (dPutS (.ptr 0) (.str "at") (dN w) (stT ⟨cs, a, v, d, m, s⟩ B)) K := put_D (i := 1) rfl (by decide +kernel) (by decide) (by decide +kernel) k
theorem d_p2 (k : K (stT ⟨cs, a, w, d, m, s⟩ B)) : PutQ (dPutS (.ptr 0) (.str "value") (dN w) (stT ⟨cs, a, v, d, m, s⟩ B)) K := put_D (i := 2) rfl (by decide +kernel) (by decide) (by decide +kernel) k
theorem d_p3 (k : K (stT ⟨cs, a, v, w, m, s⟩ B)) : PutQ (dPutS (.ptr 0) (.str "digits") (dN w) (stT ⟨cs, a, v, d, m, s⟩ B)) K := put_D (i := 3) rfl (by decide +kernel) (by decide) (by decide +kernel) k
theorem d_p4 (k : K (stT ⟨cs, a, v, d, w, s⟩ B)) : PutQ (dPutS (.ptr 0) (.str "mixed") (dN w) (stT ⟨cs, a, v, d, m, s⟩ B)) K := put_D (i := 4) rfl (by decide +kernel) (by decide) (by decide +kernel) k
theorem d_p5 (k : K (stT ⟨cs, a, v, d, m, w⟩ B)) : PutQ (dPutS (.ptr 0) (.str "salt") (dN w) (stT ⟨cs, a, v, d, m, s⟩ B)) K := put_D (i := 5) rfl (by decide +kernel) (by decide) (by decide +kernel) k
end
local macro_rules | `(tactic| decreasing_trivial_pre_omega) => `(tactic| first
  | (with_reducible refine d_g0 ?_)
  | (with_reducible refine d_g1 ?_)
  | (with_reducible refine d_g2 ?_)
  | (with_reducible refine d_g3 ?_)
  | (with_reducible refine d_g4 ?_)
  | (with_reducible refine d_g5 ?_)
  | (with_reducible refine d_p1 ?_)
  | (with_reducible refine d_p2 ?_)
  | (with_reducible refine d_p3 ?_)
  | (with_reducible refine d_p4 ?_)
  | (with_reducible refine d_p5 ?_)
  | (with_reducible refine E1.imp ?_)
  | ((with_reducible refine rng1_n ?_ ?_); omega)
  | ((with_reducible refine rng2_n ?_ ?_ ?_); omega; omega)
  | ((with_reducible refine o_subN ?_ ?_); omega)
  | ((with_reducible refine o_mulN ?_ ?_); omega)
  | ((with_reducible refine o_divN ?_ ?_ ?_); omega; omega)
  | ((with_reducible refine o_modN ?_ ?_); omega)
  | ((with_reducible refine o_shl1 ?_ ?_); omega)
  | ((with_reducible refine ix_rngL ?_ ?_); omega)
  | ((with_reducible refine ix_tab ?_ ?_); omega)
  | ((with_reducible refine ix_mapL ?_ ?_); omega)
  | ((with_reducible refine ix_mapT ?_ ?_); omega)
  | ((with_reducible refine o_modIN ?_ ?_); omega)
  | ((with_reducible refine o_divIN ?_ ?_ ?_); omega; omega)
  | ((with_reducible refine o_mulIN ?_ ?_); omega)
  | ((with_reducible refine o_mulNI ?_ ?_); omega)
  | ((with_reducible refine o_mulNN ?_ ?_); omega)
  | ((with_reducible refine o_mul1 ?_ ?_); omega)
  | ((with_reducible refine o_mulC ?_ ?_); omega)
  | ((with_reducible refine br_dt ?_ ?_); omega)
  | ((with_reducible refine br_df ?_ ?_); omega)
  | ((with_reducible refine o_addT ?_ ?_); (focus (simp [bigN]; done)))
  | ((with_reducible refine o_addL ?_ ?_); (focus (simp [bigN]; done)))
  | ((with_reducible refine br_dt ?_ ?_); exact rfl)
  | ((with_reducible refine br_df ?_ ?_); exact Bool.false_ne_true)
  | ((with_reducible refine br_df ?_ ?_); exact (fun h => Bool.false_ne_true h.symm))
  | ((with_reducible refine w_xis_t ?_ ?_); decide +kernel)
  | ((with_reducible refine w_xis_f ?_ ?_); decide +kernel)
  | ((with_reducible refine w_xf1 ?_ ?_); decide +kernel)
  | ((with_reducible refine tryq_t ?_ ?_ ?_); (focus (simp; done)); decide +kernel; dsimp only [List.set])
  | ((with_reducible refine tryq_f ?_ ?_ ?_); (focus (simp; done)); decide +kernel))
section
variable {cs : List Int} {n a v d m s : Nat} {B S : Sto} {R : XV → Sto → Prop} {Q : D → Sto → Prop}
theorem w_load (ha : a < cs.length) (k : ∀ t', Q .non (stT t' B)) : W (F__law_load [.ptr 0] (stT ⟨cs, a, v, d, m, s⟩ B)) R Q := by
  refine go__law_load ?_
  (repeat decreasing_trivial_pre_omega)
  refine br_d (fun h => ?_) (fun h => ?_)
  · (repeat decreasing_trivial_pre_omega)
    exact fin_t0 trivial (k _)
  · (repeat decreasing_trivial_pre_omega)
    exact fin_t0 trivial (k _)
theorem w_draw {t : Tp} (h0 : 0 < n) (h1 : n < 1073741824) (k : ∀ v t', v < n → Q (dN v) (stT t' B)) : W (F__law_draw [.ptr 0, dN n] (stT t B)) R Q := by
  refine go__law_draw ?_
  have fin : ∀ v t', v < n → FinQ 0 (stT t B) R Q (.ret (dN v)) (stT t' B) := fun v t' hv => fin_t0 trivial (k v t' hv)
  have tail : ∀ (t' : Tp) (x2 x3 : Option D), X ((zSeq (zIfS (zB (zOp dGt (zOp dGetD (zVar 0) (zC (.str "mixed"))) (zC (dN 0)))) (zPutD (zVar 0) (zC (.str "mixed")) (zOp dSub (zOp dGetD (zVar 0) (zC (.str "mixed"))) (zC (dN 1)))) zNext)
    (zSeq (zPutD (zVar 0) (zC (.str "salt")) (zOp dMod (zCall dInt (zCons (zOp dAdd (zOp dMul (zOp dGetD (zVar 0) (zC (.str "salt"))) (zC (dN 48271))) (zC (dN 7))) zNil)) (zC (dN 2147483647))))
    (zRet (zOp dMod (zOp dMod (zCall dInt (zCons (zOp dAdd (zOp dMul (zOp dDiv (zOp dGetD (zVar 0) (zC (.str "salt"))) (zC (dN 13))) (zC (dN 69621))) (zC (dN 5))) zNil)) (zC (dN 1000003))) (zVar 1))))) [some (.ptr 0), some (dN n), x2, x3] (stT t' B)) (FinQ 0 (stT t B) R Q) := by
    rintro ⟨cs, a, v, d, m, s⟩ x2 x3
    (repeat decreasing_trivial_pre_omega)
    refine br_d (fun h => ?_) (fun h => ?_)
    · (repeat decreasing_trivial_pre_omega)
      exact fin _ _ (Nat.mod_lt _ h0)
    · (repeat decreasing_trivial_pre_omega)
      exact fin _ _ (Nat.mod_lt _ h0)
  generalize (zSeq (zIfS (zB (zOp dGt (zOp dGetD (zVar 0) (zC (.str "mixed"))) (zC (dN 0)))) (zPutD (zVar 0) (zC (.str "mixed")) (zOp dSub (zOp dGetD (zVar 0) (zC (.str "mixed"))) (zC (dN 1)))) zNext)
    (zSeq (zPutD (zVar 0) (zC (.str "salt")) (zOp dMod (zCall dInt (zCons (zOp dAdd (zOp dMul (zOp dGetD (zVar 0) (zC (.str "salt"))) (zC (dN 48271))) (zC (dN 7))) zNil)) (zC (dN 2147483647))))
    (zRet (zOp dMod (zOp dMod (zCall dInt (zCons (zOp dAdd (zOp dMul (zOp dDiv (zOp dGetD (zVar 0) (zC (.str "salt"))) (zC (dN 13))) (zC (dN 69621))) (zC (dN 5))) zNil)) (zC (dN 1000003))) (zVar 1))))) = tl at tail ⊢
  (repeat decreasing_trivial_pre_omega)
  refine br_d (fun h => ?_) (fun h => ?_)
  · (repeat decreasing_trivial_pre_omega)
    exact fin _ _ h0
  (repeat decreasing_trivial_pre_omega)
  refine for_r (fun i env T => ∃ t' x2 x3, env = [some (.ptr 0), some (dN n), x2, x3] ∧ T = stT t' B) ⟨t, _, _, rfl, rfl⟩ ?_ ?_
  · rintro i hi env T ⟨⟨cs, a, v, d, m, s⟩, x2, x3, rfl, rfl⟩
    have rest : X ((zSeq (zIfS (zOr (zB (zOp dGt (zOp dGetD (zVar 0) (zC (.str "mixed"))) (zC (dN 0)))) (zB (zOp dGe (zOp dGetD (zVar 0) (zC (.str "at"))) (zCall dLen (zCons (zOp dGetD (zVar 0) (zC (.str "cells"))) zNil))))) zBrk zNext)
    (zExpr (zCallF 1 F__law_load (zCons (zVar 0) zNil)))) [some (.ptr 0), some (dN n), some (dN i), x3] (stT ⟨cs, a, v, d, m, s⟩ B)) (Lp (fun env T => ∃ t' x2 x3, env = [some (.ptr 0), some (dN n), x2, x3] ∧ T = stT t' B) (Sq tl (FinQ 0 (stT t B) R Q))) := by
      (repeat decreasing_trivial_pre_omega)
      refine br_d (fun h => ?_) (fun h => ?_)
      · (repeat decreasing_trivial_pre_omega)
        exact tail _ _ _
      · (repeat decreasing_trivial_pre_omega)
        refine br_d (fun h => ?_) (fun h => ?_)
        · (repeat decreasing_trivial_pre_omega)
          exact tail _ _ _
        · (repeat decreasing_trivial_pre_omega)
          refine w_load (by omega) fun t' => ?_
          (repeat decreasing_trivial_pre_omega)
          exact ⟨_, _, _, rfl, rfl⟩
    generalize (zSeq (zIfS (zOr (zB (zOp dGt (zOp dGetD (zVar 0) (zC (.str "mixed"))) (zC (dN 0)))) (zB (zOp dGe (zOp dGetD (zVar 0) (zC (.str "at"))) (zCall dLen (zCons (zOp dGetD (zVar 0) (zC (.str "cells"))) zNil))))) zBrk zNext)
    (zExpr (zCallF 1 F__law_load (zCons (zVar 0) zNil)))) = rb at rest ⊢
    (repeat decreasing_trivial_pre_omega)
    refine br_d (fun h => ?_) (fun h => ?_)
    · (repeat decreasing_trivial_pre_omega)
      refine br_d (fun h => ?_) (fun h => ?_)
      · (repeat decreasing_trivial_pre_omega)
        exact fin _ _ (Nat.mod_lt _ h0)
      · (repeat decreasing_trivial_pre_omega)
        exact rest
    · (repeat decreasing_trivial_pre_omega)
      exact rest
  · rintro env T ⟨t', x2, x3, rfl, rfl⟩
    exact tail _ _ _
end
end K58

namespace Z
/-! ### closures of tables of truths, also row by row in place -/
def WarB (r : Nat → Nat → Bool) : Nat → Nat → Nat → Bool
  | 0, x, y => r x y
  | k + 1, x, y => WarB r k x y || (WarB r k x k && WarB r k k y)
section
variable {r : Nat → Nat → Bool}
theorem warB_in {x y : Nat} (h : r x y = true) : ∀ k, WarB r k x y = true
  | 0 => h
  | k + 1 => by rw [WarB, warB_in h k]; rfl
theorem warB_tr : ∀ (k x j y : Nat), j < k → WarB r k x j = true → WarB r k j y = true → WarB r k x y = true := by
  intro k
  induction k with
  | zero => intro x j y h; omega
  | succ k ih =>
    intro x j y hj h1 h2
    rw [WarB] at h1 h2 ⊢
    simp only [Bool.or_eq_true, Bool.and_eq_true] at h1 h2 ⊢
    by_cases hlt : j < k
    · rcases h1 with h1 | ⟨h1, h3⟩
      · rcases h2 with h2 | ⟨h2, h4⟩
        · exact .inl (ih x j y hlt h1 h2)
        · exact .inr ⟨ih x j k hlt h1 h2, h4⟩
      · rcases h2 with h2 | ⟨h2, h4⟩
        · exact .inr ⟨h1, ih k j y hlt h3 h2⟩
        · exact .inr ⟨h1, h4⟩
    · have e : j = k := by omega
      subst e
      exact .inr ⟨h1.elim id fun q => q.1, h2.elim id fun q => q.2⟩
theorem tg_trans {E : Nat → Nat → Prop} {x y z : Nat} (a : Relation.TransGen E x y) (b : Relation.TransGen E y z) : Relation.TransGen E x z := by
  induction b with
  | single e => exact a.tail e
  | tail _ e ih => exact ih.tail e
theorem warB_sound {E : Nat → Nat → Prop} (hu : ∀ x y, r x y = true → E x y) : ∀ (k x y : Nat), WarB r k x y = true → Relation.TransGen E x y
  | 0, x, y, h => .single (hu x y h)
  | k + 1, x, y, h => by
    rw [WarB] at h
    simp only [Bool.or_eq_true, Bool.and_eq_true] at h
    rcases h with h | ⟨h1, h2⟩
    · exact warB_sound hu k x y h
    · exact tg_trans (warB_sound hu k x k h1) (warB_sound hu k k y h2)
theorem warB_full {E : Nat → Nat → Prop} {n : Nat} (hu : ∀ x y, E x y → r x y = true ∧ x < n) {x y : Nat} (h : Relation.TransGen E x y) : WarB r n x y = true := by
  induction h with
  | single e => exact warB_in (hu _ _ e).1 n
  | tail _ e ih => exact warB_tr n _ _ _ (hu _ _ e).2 ih (warB_in (hu _ _ e).1 n)
/-- stage z, the rows before x0 done -/
def midB (W : Nat → Nat → Bool) (z x0 : Nat) (i y : Nat) : Bool := W i y || (decide (i < x0) && (W i z && W z y))
theorem midB_row (W : Nat → Nat → Bool) (z x0 y : Nat) : midB W z x0 z y = W z y := by
  unfold midB
  cases W z y <;> cases W z z <;> simp
theorem midB_at (W : Nat → Nat → Bool) (z x y : Nat) : midB W z x x y = W x y := by
  unfold midB
  simp
theorem midB_t {W : Nat → Nat → Bool} {z x : Nat} (h : W x z = true) (i y : Nat) : midB W z (x + 1) i y = if i = x then (W x y || W z y) else midB W z x i y := by
  unfold midB
  by_cases e : i = x
  · subst e
    rw [if_pos rfl, h]
    simp
  · rw [if_neg e]
    have : decide (i < x + 1) = decide (i < x) := decide_eq_decide.mpr (by omega)
    rw [this]
theorem midB_f {W : Nat → Nat → Bool} {z x : Nat} (h : W x z = false) (i y : Nat) : midB W z (x + 1) i y = midB W z x i y := by
  unfold midB
  by_cases e : i = x
  · subst e
    rw [h]
    simp
  · have : decide (i < x + 1) = decide (i < x) := decide_eq_decide.mpr (by omega)
    rw [this]
theorem midB_0 (W : Nat → Nat → Bool) (z i y : Nat) : midB W z 0 i y = W i y := by unfold midB; simp
theorem midB_n {r : Nat → Nat → Bool} {z n i y : Nat} (h : i < n) : midB (WarB r z) z n i y = WarB r (z + 1) i y := by
  rw [WarB]; unfold midB; simp [h]
end
end Z

namespace K58
open PySem L2 Z V K06
open PySem.Spec PyProof.Rows
variable [Tabs]
set_option synthInstance.maxHeartbeats 0
set_option synthInstance.maxSize 1000000
local macro_rules | `(tactic| decreasing_trivial_pre_omega) => `(tactic| first
  | (with_reducible refine E1.imp ?_)
  | ((with_reducible refine rng1_n ?_ ?_); omega)
  | ((with_reducible refine rng2_n ?_ ?_ ?_); omega; omega)
  | ((with_reducible refine o_subN ?_ ?_); omega)
  | ((with_reducible refine o_mulN ?_ ?_); omega)
  | ((with_reducible refine o_divN ?_ ?_ ?_); omega; omega)
  | ((with_reducible refine o_modN ?_ ?_); omega)
  | ((with_reducible refine o_shl1 ?_ ?_); omega)
  | ((with_reducible refine ix_rngL ?_ ?_); omega)
  | ((with_reducible refine ix_tab ?_ ?_); omega)
  | ((with_reducible refine ix_mapL ?_ ?_); omega)
  | ((with_reducible refine ix_mapT ?_ ?_); omega)
  | ((with_reducible refine o_modIN ?_ ?_); omega)
  | ((with_reducible refine o_divIN ?_ ?_ ?_); omega; omega)
  | ((with_reducible refine o_mulIN ?_ ?_); omega)
  | ((with_reducible refine o_mulNI ?_ ?_); omega)
  | ((with_reducible refine o_mulNN ?_ ?_); omega)
  | ((with_reducible refine o_mul1 ?_ ?_); omega)
  | ((with_reducible refine o_mulC ?_ ?_); omega)
  | ((with_reducible refine br_dt ?_ ?_); omega)
  | ((with_reducible refine br_df ?_ ?_); omega)
  | ((with_reducible refine o_addT ?_ ?_); (focus (simp [bigN]; done)))
  | ((with_reducible refine o_addL ?_ ?_); (focus (simp [bigN]; done)))
  | ((with_reducible refine br_dt ?_ ?_); exact rfl)
  | ((with_reducible refine br_df ?_ ?_); exact Bool.false_ne_true)
  | ((with_reducible refine br_df ?_ ?_); exact (fun h => Bool.false_ne_true h.symm))
  | ((with_reducible refine w_xis_t ?_ ?_); decide +kernel)
  | ((with_reducible refine w_xis_f ?_ ?_); decide +kernel)
  | ((with_reducible refine w_xf1 ?_ ?_); decide +kernel)
  | ((with_reducible refine tryq_t ?_ ?_ ?_); (focus (simp; done)); decide +kernel; dsimp only [List.set])
  | ((with_reducible refine tryq_f ?_ ?_ ?_); (focus (simp; done)); decide +kernel))
theorem pop_at {ds : List D} {i : Nat} (hi : i < ds.length) : popAt ds (i : Int) = some (ds[i], ds.eraseIdx i) := by
  unfold popAt ixN
  rw [if_pos (by omega)]
  simp [hi]
theorem b_popN {n i : Nat} {S : Sto} {ds : List D} {R : XV → Sto → Prop} {Q : D → Sto → Prop} (h : S[n]? = some (.lst ds)) (hi : i < ds.length) (hb : i ≤ 1000000) (k : Q ds[i] (S.set n (.lst (ds.eraseIdx i)))) : W (dPopAt (.ptr n) [dN i] S) R Q := by
  refine w_ok (a := ds[i]) (S := S.set n (.lst (ds.eraseIdx i))) ?_ k
  unfold dPopAt dN
  simp only [h]
  rw [if_pos (by omega), pop_at hi]
theorem w_rgC {fa : EM D} {env : En} {S : Sto} {R : XV → Sto → Prop} {Q : D → Sto → Prop} (k : W (fa env S) R fun d S1 => ∃ n : Nat, d = dN n ∧ n ≤ 1000000 ∧ Q (.ptr S1.length) (S1 ++ [.lst ((List.range n).map dN)])) : W (zRgA .cel fa env S) R Q :=
  w_bnd (w_use k (fun _ _ q => q) fun d S1 q => by
    obtain ⟨n, rfl, hn, q⟩ := q
    show W (if (n : Int) ≤ 1000000 ∧ -1000000 ≤ (n : Int) then RgK.res .cel (rangeD 0 n) S1 else .stk) R Q
    rw [if_pos ⟨by omega, by omega⟩]
    have e : rangeD 0 (n : Int) = (List.range n).map dN := by
      unfold rangeD
      rw [show ((n : Int) - 0).toNat = n by omega]
      exact List.map_congr_left fun x _ => by show D.int _ = D.int _; congr 1; omega
    rw [e]
    exact ⟨q⟩)
theorem erase_perm {l : List Nat} {v : Nat} (hv : v < l.length) : List.Perm ([l[v]] ++ l.eraseIdx v) l := by
  have e : l = l.take v ++ l[v] :: l.drop (v + 1) := by
    rw [← List.drop_eq_getElem_cons hv, List.take_append_drop]
  rw [List.eraseIdx_eq_take_drop_succ]
  have p : List.Perm (l[v] :: (l.take v ++ l.drop (v + 1))) (l.take v ++ l[v] :: l.drop (v + 1)) := List.perm_middle.symm
  rw [← e] at p
  exact p
section
variable {t : Tp} {n p : Nat} {B S : Sto} {R : XV → Sto → Prop} {Q : D → Sto → Prop}
theorem w_shuffled (hn : n ≤ 64) (k : ∀ l t', List.Perm l (List.range n) → Q (.lst (l.map dN)) (stT t' B)) : W (F__law_shuffled [.ptr 0, dN n] (stT t B)) R Q := by
  refine go__law_shuffled ?_
  obtain ⟨p, hp⟩ : ∃ p, B.length + 1 = p := ⟨_, rfl⟩
  (repeat decreasing_trivial_pre_omega)
  refine w_rgC ?_
  (repeat decreasing_trivial_pre_omega)
  refine ⟨n, rfl, by omega, ?_⟩
  (repeat decreasing_trivial_pre_omega)
  rw [t_len hp, stT_L]
  refine b_len (xs := (List.range n).map dN) (anyOf_ptr ((t_at (j := 0) hp).trans rfl)) ?_
  rw [List.length_map, (List.length_range)]
  (repeat decreasing_trivial_pre_omega)
  refine lc_any (L := List.range n) (mk := dN) (fun i acc T => ∃ t' left told, acc = told.map dN ∧ T = stT t' (B ++ [.lst (left.map dN)]) ∧ List.Perm (told ++ left) (List.range n) ∧ told.length = i) (by simp [bigN]; omega) ⟨t, List.range n, [], rfl, rfl, List.Perm.refl _, rfl⟩ ?_ ?_
  · rintro i hi acc T ⟨t', left, told, rfl, rfl, hpm, htl⟩
    rw [List.length_range] at hi
    have hll : left.length = n - i := by
      have := hpm.length_eq
      rw [List.length_append, List.length_range] at this
      omega
    dsimp only [wipeE, List.set]
    (repeat decreasing_trivial_pre_omega)
    refine isPtrL_of (xs := left.map dN) ((t_at (j := 0) hp).trans rfl) ?_
    (repeat decreasing_trivial_pre_omega)
    refine b_len (xs := left.map dN) (anyOf_ptr ((t_at (j := 0) hp).trans rfl)) ?_
    rw [List.length_map]
    (repeat decreasing_trivial_pre_omega)
    refine w_draw (by omega) (by omega) fun v t2 hv => ?_
    (repeat decreasing_trivial_pre_omega)
    refine b_popN (ds := left.map dN) ((t_at (j := 0) hp).trans rfl) (by simpa using hv) (by omega) ?_
    rw [t_set0 hp, List.getElem_map]
    (repeat decreasing_trivial_pre_omega)
    refine ⟨t2, left.eraseIdx v, told ++ [left[v]], by rw [List.map_append]; rfl, ?_, ?_, by simp [htl]⟩
    · rw [List.eraseIdx_eq_take_drop_succ, List.eraseIdx_eq_take_drop_succ, List.map_append, List.map_take, List.map_drop]; rfl
    · refine List.Perm.trans ?_ hpm
      rw [List.append_assoc]
      refine List.Perm.append_left told ?_
      exact erase_perm hv
  · rintro acc T _ ⟨t', left, told, rfl, rfl, hpm, htl⟩
    rw [List.length_range] at htl
    have hl0 : left = [] := by
      have := hpm.length_eq
      rw [List.length_append, List.length_range] at this
      exact List.eq_nil_of_length_eq_zero (by omega)
    subst hl0
    rw [List.append_nil] at hpm
    refine w_ok (a := .lst (told.map dN)) (S := stT t' (B ++ [.lst (List.map dN [])])) rfl ?_
    exact fin_tL (cl_nats _) (k told t' hpm)
theorem lessD_cg {n : Nat} {r s : Nat → Nat → Bool} (h : ∀ x y, x < n → y < n → r x y = s x y) : lessD n r = lessD n s := by
  unfold lessD rowB
  congr 1
  refine List.map_congr_left fun x hx => ?_
  congr 1
  exact List.map_congr_left fun y hy => by rw [h x y (List.mem_range.mp hx) (List.mem_range.mp hy)]
/-- upward along the numbers, and transitive -/
structure Up (n : Nat) (r : Nat → Nat → Bool) : Prop where
  lt : ∀ x y, r x y = true → x < y ∧ y < n
  tr : ∀ x y z, r x y = true → r y z = true → r x z = true
theorem war_lt {n : Nat} {r : Nat → Nat → Bool} (h : ∀ x y, r x y = true → x < y ∧ y < n) : ∀ k x y, WarB r k x y = true → x < y ∧ y < n
  | 0, x, y, q => h x y q
  | k + 1, x, y, q => by
    rw [WarB, Bool.or_eq_true, Bool.and_eq_true] at q
    rcases q with q | ⟨q1, q2⟩
    · exact war_lt h k x y q
    · have := war_lt h k x k q1
      have := war_lt h k k y q2
      omega
theorem war_Up {n : Nat} {r : Nat → Nat → Bool} (h : ∀ x y, r x y = true → x < y ∧ y < n) : Up n (WarB r n) := by
  have hi : ∀ x y, WarB r n x y = true ↔ Relation.TransGen (fun a b => r a b = true) x y := fun x y => ⟨warB_sound (fun _ _ q => q) n x y, warB_full fun a b q => ⟨q, by have := h a b q; omega⟩⟩
  exact ⟨fun x y q => war_lt h n x y q, fun x y z h1 h2 => (hi x z).mpr (tg_trans ((hi x y).mp h1) ((hi y z).mp h2))⟩
theorem closed_tail {dl : D} {x4 x5 x6 x7 : Option D} {r : Nat → Nat → Bool} (hn : n ≤ 64) (hr : ∀ x y, r x y = true → x < y ∧ y < n) (k : Up n (WarB r n) → Q (lessD n (WarB r n)) S) : X ((zSeq (zFor (zRange1 (zCons (zVar 0) zNil)) (zgName 3) (zFor (zRange1 (zCons (zVar 0) zNil)) (zgName 4) (zIfS (zTru (zOp dIx (zOp dIx (zVar 2) (zVar 4)) (zVar 3))) (zPut (zVar 2) (zVar 4) (zLcK .frz [5] (zRange1 (zCons (zVar 0) zNil)) (zgName 5) zYes (zOrV (zOp dIx (zOp dIx (zVar 2) (zVar 4)) (zVar 5)) (zOp dIx (zOp dIx (zVar 2) (zVar 3)) (zVar 5))))) zNext)))
    (zRet (zVar 2))) [some (dN n), some dl, some (.ptr (S.length + n)), none, x4, x5, x6, x7] (S ++ oT n S.length r)) (FinQ 2 S R Q) := by
  (repeat decreasing_trivial_pre_omega)
  refine for_r (fun k env T => ∃ y3 y4 y5 e g, env = [some (dN n), some dl, some (.ptr (S.length + n)), y3, y4, y5, x6, x7] ∧ Bx S n e g T ∧ ∀ x y, x < n → e x y = WarB r k x y) ⟨_, _, _, r, _, rfl, Bx.of r, fun _ _ _ => rfl⟩ ?_ ?_
  · rintro kk hk env T ⟨y3, y4, y5, e, g, rfl, hB, he⟩
    (repeat decreasing_trivial_pre_omega)
    refine for_r (fun i env T => ∃ y4 y5 e g, env = [some (dN n), some dl, some (.ptr (S.length + n)), some (dN kk), y4, y5, x6, x7] ∧ Bx S n e g T ∧ ∀ x y, x < n → e x y = midB (WarB r kk) kk i x y) ⟨_, _, e, g, rfl, hB, fun x y hx => by rw [he x y hx, midB_0]⟩ ?_ ?_
    · rintro i hi env T ⟨y4, y5, e, g, rfl, hB, he⟩
      have hek : e i kk = WarB r kk i kk := by rw [he i kk hi, midB_at]
      (repeat decreasing_trivial_pre_omega)
      refine bx_out hB hi ?_
      (repeat decreasing_trivial_pre_omega)
      refine bx_row hB hi hk ?_
      (repeat decreasing_trivial_pre_omega)
      cases q : e i kk with
      | false =>
        refine br_f ?_
        (repeat decreasing_trivial_pre_omega)
        exact ⟨_, _, e, g, rfl, hB, fun x y hx => by rw [he x y hx, midB_f (by rw [← hek]; exact q)]⟩
      | true =>
        refine br_t ?_
        (repeat decreasing_trivial_pre_omega)
        refine lc_map (L := List.range n) (mk := dN) (v := fun j => D.bl (e i j || e kk j)) (by simp [bigN]; omega) (fun j hj => ?_) ?_
        · have hj := List.mem_range.mp hj
          dsimp only [wipeE, List.set]
          (repeat decreasing_trivial_pre_omega)
          refine bx_out hB hi ?_
          (repeat decreasing_trivial_pre_omega)
          refine bx_row hB hi hj ?_
          (repeat decreasing_trivial_pre_omega)
          cases q2 : e i j with
          | true => exact br_t ⟨rfl, rfl⟩
          | false =>
            refine br_f ?_
            refine w_op ?_
            (repeat decreasing_trivial_pre_omega)
            refine bx_out hB hk ?_
            (repeat decreasing_trivial_pre_omega)
            refine bx_row hB hk hj ?_
            exact ⟨rfl, rfl⟩
        refine w_ok (a := D.lst (rowB n fun j => e i j || e kk j)) (S := T) rfl ?_
        (repeat decreasing_trivial_pre_omega)
        refine bx_put hB hi _ ?_
        (repeat decreasing_trivial_pre_omega)
        refine ⟨_, _, _, _, rfl, hB.rep hi _, fun x y hx => ?_⟩
        rw [midB_t (by rw [← hek]; exact q)]
        by_cases ex : x = i
        · subst ex
          rw [if_pos rfl, if_pos rfl, he x y hx, he kk y hk, midB_at, midB_row]
        · rw [if_neg ex, if_neg ex, he x y hx]
    · rintro env T ⟨y4, y5, e, g, rfl, hB, he⟩
      exact ⟨_, _, _, e, g, rfl, hB, fun x y hx => by rw [he x y hx]; exact midB_n hx⟩
  · rintro env T ⟨y3, y4, y5, e, g, rfl, hB, he⟩
    (repeat decreasing_trivial_pre_omega)
    obtain ⟨L', hf⟩ := hB.frz
    obtain ⟨L, rfl⟩ := hB.pre
    rw [show lessD n e = lessD n (WarB r n) from lessD_cg fun x y hx _ => he x y hx] at hf
    exact fin_pure hf cl_less (k (war_Up hr))
end
end K58

namespace K58
open PySem L2 Z V K06
open PySem.Spec PyProof.Rows
variable [Tabs]
set_option synthInstance.maxHeartbeats 0
set_option synthInstance.maxSize 1000000
local macro_rules | `(tactic| decreasing_trivial_pre_omega) => `(tactic| first
  | ((with_reducible refine ixt_out ?_ ?_ ?_); assumption; omega)
  | ((with_reducible refine ixt_row ?_ ?_ ?_ ?_); assumption; omega; omega)
  | ((with_reducible refine put_row ?_ ?_ ?_ ?_); assumption; omega; omega)
  | (with_reducible refine E1.imp ?_)
  | ((with_reducible refine rng1_n ?_ ?_); omega)
  | ((with_reducible refine rng2_n ?_ ?_ ?_); omega; omega)
  | ((with_reducible refine o_subN ?_ ?_); omega)
  | ((with_reducible refine o_mulN ?_ ?_); omega)
  | ((with_reducible refine o_divN ?_ ?_ ?_); omega; omega)
  | ((with_reducible refine o_modN ?_ ?_); omega)
  | ((with_reducible refine o_shl1 ?_ ?_); omega)
  | ((with_reducible refine ix_rngL ?_ ?_); omega)
  | ((with_reducible refine ix_tab ?_ ?_); omega)
  | ((with_reducible refine ix_mapL ?_ ?_); omega)
  | ((with_reducible refine ix_mapT ?_ ?_); omega)
  | ((with_reducible refine o_modIN ?_ ?_); omega)
  | ((with_reducible refine o_divIN ?_ ?_ ?_); omega; omega)
  | ((with_reducible refine o_mulIN ?_ ?_); omega)
  | ((with_reducible refine o_mulNI ?_ ?_); omega)
  | ((with_reducible refine o_mulNN ?_ ?_); omega)
  | ((with_reducible refine o_mul1 ?_ ?_); omega)
  | ((with_reducible refine o_mulC ?_ ?_); omega)
  | ((with_reducible refine br_dt ?_ ?_); omega)
  | ((with_reducible refine br_df ?_ ?_); omega)
  | ((with_reducible refine o_addT ?_ ?_); (focus (simp [bigN]; done)))
  | ((with_reducible refine o_addL ?_ ?_); (focus (simp [bigN]; done)))
  | ((with_reducible refine br_dt ?_ ?_); exact rfl)
  | ((with_reducible refine br_df ?_ ?_); exact Bool.false_ne_true)
  | ((with_reducible refine br_df ?_ ?_); exact (fun h => Bool.false_ne_true h.symm))
  | ((with_reducible refine w_xis_t ?_ ?_); decide +kernel)
  | ((with_reducible refine w_xis_f ?_ ?_); decide +kernel)
  | ((with_reducible refine w_xf1 ?_ ?_); decide +kernel)
  | ((with_reducible refine tryq_t ?_ ?_ ?_); (focus (simp; done)); decide +kernel; dsimp only [List.set])
  | ((with_reducible refine tryq_f ?_ ?_ ?_); (focus (simp; done)); decide +kernel))
section
variable {t : Tp} {n p q : Nat} {Ls : List (Nat × Nat)} {r : Nat → Nat → Bool} {B S : Sto} {R : XV → Sto → Prop} {Q : D → Sto → Prop}
def Lks (n : Nat) (Ls : List (Nat × Nat)) : Prop := ∀ l ∈ Ls, l.1 < l.2 ∧ l.2 < n
theorem w_closed (hn : n ≤ 64) (hq : S[q]? = some (.lst (Ls.map pD))) (hL : Lks n Ls) (k : ∀ r, Up n r → Q (lessD n r) S) : W (F__law_closed [dN n, .ptr q] S) R Q := by
  refine go__law_closed ?_
  obtain ⟨p, hp⟩ : ∃ p, S.length = p := ⟨_, rfl⟩
  have hqp : q < S.length := (List.getElem?_eq_some_iff.mp hq).1
  have tail : ∀ (x4 x5 x6 x7 : Option D) (r : Nat → Nat → Bool), (∀ x y, r x y = true → x < y ∧ y < n) → _ := fun x4 x5 x6 x7 r hr => closed_tail (dl := .ptr q) (x4 := x4) (x5 := x5) (x6 := x6) (x7 := x7) (R := R) (Q := Q) (S := S) hn hr fun hU => k _ hU
  generalize (zSeq (zFor (zRange1 (zCons (zVar 0) zNil)) (zgName 3) (zFor (zRange1 (zCons (zVar 0) zNil)) (zgName 4) (zIfS (zTru (zOp dIx (zOp dIx (zVar 2) (zVar 4)) (zVar 3))) (zPut (zVar 2) (zVar 4) (zLcK .frz [5] (zRange1 (zCons (zVar 0) zNil)) (zgName 5) zYes (zOrV (zOp dIx (zOp dIx (zVar 2) (zVar 4)) (zVar 5)) (zOp dIx (zOp dIx (zVar 2) (zVar 3)) (zVar 5))))) zNext)))
    (zRet (zVar 2))) = tl at tail ⊢
  (repeat decreasing_trivial_pre_omega)
  refine lc_tab (by omega) (fun i T hi => ?_) ?_
  · dsimp only [wipeE, List.set]
    (repeat decreasing_trivial_pre_omega)
    exact ⟨rfl, rfl⟩
  rw [hp]
  have hat : ∀ r, (S ++ oT n p r)[q]? = some (.lst (Ls.map pD)) := fun r => by rw [List.getElem?_append_left hqp]; exact hq
  (repeat decreasing_trivial_pre_omega)
  refine src_ptr (hat _) ?_
  refine for_c (n := q) (L := Ls) (mk := pD) (fun L env T => (∀ l ∈ L, l ∈ Ls) ∧ ∃ x4 x5 x6 r, env = [some (dN n), some (.ptr q), some (.ptr (p + n)), none, x4, x5, x6, none] ∧ T = S ++ oT n p r ∧ ∀ x y, r x y = true → x < y ∧ y < n) (fun L env T ⟨_, _, _, _, r, _, e, _⟩ => by rw [e]; exact hat r) ⟨fun _ h => h, _, _, _, _, rfl, rfl, fun x y h => absurd h (by simp)⟩ ?_ ?_
  · rintro l L env T _ ⟨hl, x4, x5, x6, r, rfl, rfl, hr⟩
    obtain ⟨h1, h2⟩ := hL l (hl l List.mem_cons_self)
    (repeat decreasing_trivial_pre_omega)
    refine ⟨fun z hz => hl z (List.mem_cons_of_mem _ hz), _, _, _, _, rfl, rfl, fun x y h => ?_⟩
    by_cases e : x = l.1 ∧ y = l.2
    · rw [e.1, e.2]; exact ⟨h1, h2⟩
    · rw [if_neg e] at h; exact hr x y h
  · rintro env T ⟨_, x4, x5, x6, r, rfl, rfl, hr⟩
    rw [← hp]
    exact tail _ _ _ _ _ hr
theorem w_closedL (hn : n ≤ 64) (hL : Lks n Ls) (k : ∀ r, Up n r → Q (lessD n r) S) : W (F__law_closed [dN n, .lst (Ls.map pD)] S) R Q := by
  refine go__law_closed ?_
  obtain ⟨p, hp⟩ : ∃ p, S.length = p := ⟨_, rfl⟩
  have tail : ∀ (x4 x5 x6 x7 : Option D) (r : Nat → Nat → Bool), (∀ x y, r x y = true → x < y ∧ y < n) → _ := fun x4 x5 x6 x7 r hr => closed_tail (dl := .lst (Ls.map pD)) (x4 := x4) (x5 := x5) (x6 := x6) (x7 := x7) (R := R) (Q := Q) (S := S) hn hr fun hU => k _ hU
  generalize (zSeq (zFor (zRange1 (zCons (zVar 0) zNil)) (zgName 3) (zFor (zRange1 (zCons (zVar 0) zNil)) (zgName 4) (zIfS (zTru (zOp dIx (zOp dIx (zVar 2) (zVar 4)) (zVar 3))) (zPut (zVar 2) (zVar 4) (zLcK .frz [5] (zRange1 (zCons (zVar 0) zNil)) (zgName 5) zYes (zOrV (zOp dIx (zOp dIx (zVar 2) (zVar 4)) (zVar 5)) (zOp dIx (zOp dIx (zVar 2) (zVar 3)) (zVar 5))))) zNext)))
    (zRet (zVar 2))) = tl at tail ⊢
  (repeat decreasing_trivial_pre_omega)
  refine lc_tab (by omega) (fun i T hi => ?_) ?_
  · dsimp only [wipeE, List.set]
    (repeat decreasing_trivial_pre_omega)
    exact ⟨rfl, rfl⟩
  rw [hp]
  (repeat decreasing_trivial_pre_omega)
  refine for_l (L := Ls) (mk := pD) (fun L env T => (∀ l ∈ L, l ∈ Ls) ∧ ∃ x4 x5 x6 r, env = [some (dN n), some (.lst (Ls.map pD)), some (.ptr (p + n)), none, x4, x5, x6, none] ∧ T = S ++ oT n p r ∧ ∀ x y, r x y = true → x < y ∧ y < n) ⟨fun _ h => h, _, _, _, _, rfl, rfl, fun x y h => absurd h (by simp)⟩ ?_ ?_
  · rintro l L env T _ ⟨hl, x4, x5, x6, r, rfl, rfl, hr⟩
    obtain ⟨h1, h2⟩ := hL l (hl l List.mem_cons_self)
    (repeat decreasing_trivial_pre_omega)
    refine ⟨fun z hz => hl z (List.mem_cons_of_mem _ hz), _, _, _, _, rfl, rfl, fun x y h => ?_⟩
    by_cases e : x = l.1 ∧ y = l.2
    · rw [e.1, e.2]; exact ⟨h1, h2⟩
    · rw [if_neg e] at h; exact hr x y h
  · rintro env T ⟨_, x4, x5, x6, r, rfl, rfl, hr⟩
    rw [← hp]
    exact tail _ _ _ _ _ hr
theorem o_addP {xs ys : List D} (h : S[n]? = some (.lst xs)) (hb : xs.length + ys.length ≤ bigN) (k : Q (.lst (xs ++ ys)) S) : W (dAdd (.ptr n) (.lst ys) S) R Q := by
  have e : dAdd (.ptr n) (.lst ys) S = .ok (.lst (xs ++ ys)) S := by
    unfold dAdd
    simp only [h]
    rw [if_pos hb]
  rw [e]; exact ⟨k⟩
/-- one more pair in the last cell -/
theorem app_link {x y : Nat} {K : D → Sto → Prop} (hp : B.length + 1 = p) (hb : Ls.length < 5000) (k : K .non (stT t (B ++ [.lst ((Ls ++ [(x, y)]).map pD)]))) : W (dAppend (.ptr p) [.tup [dN x, dN y]] (stT t (B ++ [.lst (Ls.map pD)]))) R K := by
  refine b_app (xs := Ls.map pD) ((t_at (j := 0) hp).trans rfl) (by simp [bigN]; omega) ?_
  rw [t_set0 hp]
  rw [List.map_append] at k
  exact k
theorem drawn_tail {m way ra : Nat} {lv : List Nat} {x9 : Option D} {t0 : Tp} (hp : B.length + 1 = p) (hm : m ≤ 8) (hn : n ≤ m) (hway : way < 3) (hra : ra < 4) (hlv : way = 2 → lv.length = n) (k : ∀ r t', Up n r → Q (lessD n r) (stT t' B)) : X ((zSeq (zFor (zRange1 (zCons (zVar 2) zNil)) (zgName 7) (zFor (zRange2 (zCons (zOp dAdd (zVar 7) (zC (dN 1))) (zCons (zVar 2) zNil))) (zgName 10) (zSeq (zIfS (zAnd (zB (zOp dEq (zVar 3) (zC (dN 2)))) (zAnd (zB (zOp dLt (zOp dIx (zVar 6) (zVar 7)) (zOp dIx (zVar 6) (zVar 10)))) (zB (zOp dGt (zCallF 2 F__law_draw (zCons (zVar 0) (zCons (zC (dN 4)) zNil))) (zC (dN 0)))))) (zExpr (zMethL dAppend (zVar 4) (zCons (zTup (zCons (zVar 7) (zCons (zVar 10) zNil))) zNil))) zNext)
    (zIfS (zAnd (zB (zOp dLt (zVar 3) (zC (dN 2)))) (zB (zOp dEq (zCallF 2 F__law_draw (zCons (zVar 0) (zCons (zVar 5) zNil))) (zC (dN 0))))) (zExpr (zMethL dAppend (zVar 4) (zCons (zTup (zCons (zVar 7) (zCons (zVar 10) zNil))) zNil))) zNext))))
    (zRet (zCallF 2 F__law_closed (zCons (zVar 2) (zCons (zVar 4) zNil))))) [some (.ptr 0), some (dN m), some (dN n), some (dN way), some (.ptr p), some (dN (2 + ra)), some (.lst (lv.map dN)), none, none, x9, none] (stT t (B ++ [.lst []]))) (FinQ 0 (stT t0 B) R Q) := by
  (repeat decreasing_trivial_pre_omega)
  refine for_r (fun i env T => ∃ x7 x10 Ls t', env = [some (.ptr 0), some (dN m), some (dN n), some (dN way), some (.ptr p), some (dN (2 + ra)), some (.lst (lv.map dN)), x7, none, x9, x10] ∧ T = stT t' (B ++ [.lst (Ls.map pD)]) ∧ Lks n Ls ∧ Ls.length ≤ i * 16) ⟨_, _, [], _, rfl, rfl, fun l hl => absurd hl (by simp), by simp⟩ ?_ ?_
  · rintro i hi env T ⟨x7, x10, Ls, t', rfl, rfl, hL, hlen⟩
    (repeat decreasing_trivial_pre_omega)
    refine for_r2 (fun j env T => ∃ x10 Ls t', env = [some (.ptr 0), some (dN m), some (dN n), some (dN way), some (.ptr p), some (dN (2 + ra)), some (.lst (lv.map dN)), some (dN i), none, x9, x10] ∧ T = stT t' (B ++ [.lst (Ls.map pD)]) ∧ Lks n Ls ∧ Ls.length ≤ i * 16 + j) ⟨_, Ls, _, rfl, rfl, hL, by omega⟩ ?_ ?_
    · rintro j hj env T ⟨x10, Ls, t', rfl, rfl, hL, hlen⟩
      have hL2 : Lks n (Ls ++ [(i, i + 1 + j)]) := fun l hl => by
        rcases List.mem_append.mp hl with h | h
        · exact hL l h
        · rw [List.mem_singleton.mp h]
          exact ⟨by show i < i + 1 + j; omega, by show i + 1 + j < n; omega⟩
      have hb : Ls.length < 5000 := by omega
      by_cases hw : way = 2
      · have hlv := hlv hw
        subst hw
        (repeat decreasing_trivial_pre_omega)
        refine br_d (fun h => ?_) (fun h => ?_)
        · (repeat decreasing_trivial_pre_omega)
          refine w_draw (by omega) (by omega) fun v t2 hv => ?_
          (repeat decreasing_trivial_pre_omega)
          refine br_d (fun h => ?_) (fun h => ?_)
          · (repeat decreasing_trivial_pre_omega)
            refine isPtrL_of (xs := Ls.map pD) ((t_at (j := 0) hp).trans rfl) ?_
            (repeat decreasing_trivial_pre_omega)
            refine app_link hp hb ?_
            (repeat decreasing_trivial_pre_omega)
            exact ⟨_, _, _, rfl, rfl, hL2, by simp; omega⟩
          · (repeat decreasing_trivial_pre_omega)
            exact ⟨_, Ls, _, rfl, rfl, hL, by omega⟩
        · (repeat decreasing_trivial_pre_omega)
          exact ⟨_, Ls, _, rfl, rfl, hL, by omega⟩
      · (repeat decreasing_trivial_pre_omega)
        refine w_draw (by omega) (by omega) fun v t2 hv => ?_
        (repeat decreasing_trivial_pre_omega)
        refine br_d (fun h => ?_) (fun h => ?_)
        · (repeat decreasing_trivial_pre_omega)
          refine isPtrL_of (xs := Ls.map pD) ((t_at (j := 0) hp).trans rfl) ?_
          (repeat decreasing_trivial_pre_omega)
          refine app_link hp hb ?_
          (repeat decreasing_trivial_pre_omega)
          exact ⟨_, _, _, rfl, rfl, hL2, by simp; omega⟩
        · (repeat decreasing_trivial_pre_omega)
          exact ⟨_, Ls, _, rfl, rfl, hL, by omega⟩
    · rintro env T ⟨x10, Ls, t', rfl, rfl, hL, hlen⟩
      exact ⟨_, _, Ls, _, rfl, rfl, hL, by omega⟩
  · rintro env T ⟨x7, x10, Ls, t', rfl, rfl, hL, hlen⟩
    (repeat decreasing_trivial_pre_omega)
    refine w_closed (by omega) ((t_at (j := 0) hp).trans rfl) hL fun r hU => ?_
    (repeat decreasing_trivial_pre_omega)
    exact fin_tL cl_less (k _ _ hU)
theorem w_drawn {m : Nat} (hm : m ≤ 8) (k : ∀ n r t', n ≤ m → Up n r → Q (lessD n r) (stT t' B)) : W (F__law_drawn [.ptr 0, dN m] (stT t B)) R Q := by
  refine go__law_drawn ?_
  obtain ⟨p, hp⟩ : ∃ p, B.length + 1 = p := ⟨_, rfl⟩
  (repeat decreasing_trivial_pre_omega)
  refine w_draw (by omega) (by omega) fun n t1 hn => ?_
  (repeat decreasing_trivial_pre_omega)
  refine w_draw (by omega) (by omega) fun way t2 hway => ?_
  (repeat decreasing_trivial_pre_omega)
  rw [t_len hp, stT_L]
  refine br_d (fun h => ?_) (fun h => ?_)
  · (repeat decreasing_trivial_pre_omega)
    refine for_r (fun i env T => T = stT t2 (B ++ [.lst []]) ∧ ∃ x9 dl Ls, env = [some (.ptr 0), some (dN m), some (dN n), some (dN way), some dl, none, none, none, some (dN (n / 2)), x9, none] ∧ (dl = .ptr p ∧ i = 0 ∧ Ls = [] ∨ dl = .lst (Ls.map pD)) ∧ Lks n Ls ∧ Ls.length ≤ 2 * i) ⟨rfl, _, _, [], rfl, .inl ⟨rfl, rfl, rfl⟩, fun l hl => absurd hl (by simp), by simp⟩ ?_ ?_
    · rintro i hi env T ⟨rfl, x9, dl, Ls, rfl, hdl, hL, hlen⟩
      have hmod : (i + 1) % (n / 2) < n / 2 := Nat.mod_lt _ (by omega)
      have hL2 : Lks n (Ls ++ [(i, n / 2 + i), ((i + 1) % (n / 2), n / 2 + i)]) := fun l hl => by
        rcases List.mem_append.mp hl with h | h
        · exact hL l h
        · simp only [List.mem_cons, List.not_mem_nil, or_false] at h
          rcases h with rfl | rfl
          · exact ⟨by show i < n / 2 + i; omega, by show n / 2 + i < n; omega⟩
          · exact ⟨by show (i + 1) % (n / 2) < n / 2 + i; omega, by show n / 2 + i < n; omega⟩
      rcases hdl with ⟨rfl, rfl, rfl⟩ | rfl
      · (repeat decreasing_trivial_pre_omega)
        refine o_addP ((t_at (j := 0) hp).trans rfl) (by simp [bigN]) ?_
        (repeat decreasing_trivial_pre_omega)
        exact ⟨rfl, _, _, _, rfl, .inr rfl, hL2, by simp⟩
      · (repeat decreasing_trivial_pre_omega)
        refine o_addL (by simp [bigN]; omega) ?_
        (repeat decreasing_trivial_pre_omega)
        refine ⟨rfl, _, _, _, rfl, .inr (by rw [List.map_append]; rfl), hL2, by simp; omega⟩
    · rintro env T ⟨rfl, x9, dl, Ls, rfl, hdl, hL, hlen⟩
      rcases hdl with ⟨rfl, _, rfl⟩ | rfl
      · (repeat decreasing_trivial_pre_omega)
        refine w_closed (Ls := []) (by omega) ((t_at (j := 0) hp).trans rfl) hL fun r hU => ?_
        (repeat decreasing_trivial_pre_omega)
        exact fin_tL cl_less (k _ _ _ (by omega) hU)
      · (repeat decreasing_trivial_pre_omega)
        refine w_closedL (by omega) hL fun r hU => ?_
        (repeat decreasing_trivial_pre_omega)
        exact fin_tL cl_less (k _ _ _ (by omega) hU)
  have tail : ∀ (lv : List Nat) (ra : Nat) (x9 : Option D) (t' : Tp), ra < 4 → (way = 2 → lv.length = n) → _ := fun lv ra x9 t' hra hlv => drawn_tail (t0 := t) (t := t') (x9 := x9) (R := R) (Q := Q) hp hm (by omega : n ≤ m) (by omega : way < 3) hra hlv fun r t' hU => k n r t' (by omega) hU
  generalize (zSeq (zFor (zRange1 (zCons (zVar 2) zNil)) (zgName 7) (zFor (zRange2 (zCons (zOp dAdd (zVar 7) (zC (dN 1))) (zCons (zVar 2) zNil))) (zgName 10) (zSeq (zIfS (zAnd (zB (zOp dEq (zVar 3) (zC (dN 2)))) (zAnd (zB (zOp dLt (zOp dIx (zVar 6) (zVar 7)) (zOp dIx (zVar 6) (zVar 10)))) (zB (zOp dGt (zCallF 2 F__law_draw (zCons (zVar 0) (zCons (zC (dN 4)) zNil))) (zC (dN 0)))))) (zExpr (zMethL dAppend (zVar 4) (zCons (zTup (zCons (zVar 7) (zCons (zVar 10) zNil))) zNil))) zNext)
    (zIfS (zAnd (zB (zOp dLt (zVar 3) (zC (dN 2)))) (zB (zOp dEq (zCallF 2 F__law_draw (zCons (zVar 0) (zCons (zVar 5) zNil))) (zC (dN 0))))) (zExpr (zMethL dAppend (zVar 4) (zCons (zTup (zCons (zVar 7) (zCons (zVar 10) zNil))) zNil))) zNext))))
    (zRet (zCallF 2 F__law_closed (zCons (zVar 2) (zCons (zVar 4) zNil))))) = tl at tail ⊢
  (repeat decreasing_trivial_pre_omega)
  refine w_draw (by omega) (by omega) fun ra t3 hra => ?_
  (repeat decreasing_trivial_pre_omega)
  refine br_d (fun h => ?_) (fun h => ?_)
  · (repeat decreasing_trivial_pre_omega)
    refine lc_any (L := List.range n) (mk := dN) (fun i acc T => ∃ (lv : List Nat) (t' : Tp), acc = lv.map dN ∧ T = stT t' (B ++ [.lst []]) ∧ lv.length = i) (by simp [bigN]; omega) ⟨[], _, rfl, rfl, rfl⟩ ?_ ?_
    · rintro i hi acc T ⟨lv, t', rfl, rfl, hlv⟩
      dsimp only [wipeE, List.set]
      (repeat decreasing_trivial_pre_omega)
      refine w_draw (by omega) (by omega) fun v t2 hv => ?_
      exact ⟨lv ++ [v], t2, by rw [List.map_append]; rfl, rfl, by simp [hlv]⟩
    · rintro acc T _ ⟨lv, t', rfl, rfl, hlv⟩
      rw [List.length_range] at hlv
      refine w_ok (a := .lst (lv.map dN)) (S := stT t' (B ++ [.lst []])) rfl ?_
      (repeat decreasing_trivial_pre_omega)
      exact tail lv ra _ t' hra fun _ => hlv
  · (repeat decreasing_trivial_pre_omega)
    have e : List.replicate n (dN 0) = (List.replicate n 0).map dN := by rw [List.map_replicate]
    rw [e]
    exact tail _ ra _ t3 hra fun _ => by simp
end
end K58

namespace K58
open PySem L2 Z V K06
open PySem.Spec PyProof.Rows
variable [Tabs]
set_option synthInstance.maxHeartbeats 0
set_option synthInstance.maxSize 1000000
local macro_rules | `(tactic| decreasing_trivial_pre_omega) => `(tactic| first
  | ((with_reducible refine ix_less ?_ ?_); omega)
  | ((with_reducible refine ix_rowB ?_ ?_); omega)
  | (with_reducible refine len_less ?_)
  | (with_reducible refine E1.imp ?_)
  | ((with_reducible refine rng1_n ?_ ?_); omega)
  | ((with_reducible refine rng2_n ?_ ?_ ?_); omega; omega)
  | ((with_reducible refine o_subN ?_ ?_); omega)
  | ((with_reducible refine o_mulN ?_ ?_); omega)
  | ((with_reducible refine o_divN ?_ ?_ ?_); omega; omega)
  | ((with_reducible refine o_modN ?_ ?_); omega)
  | ((with_reducible refine o_shl1 ?_ ?_); omega)
  | ((with_reducible refine ix_rngL ?_ ?_); omega)
  | ((with_reducible refine ix_tab ?_ ?_); omega)
  | ((with_reducible refine ix_mapL ?_ ?_); omega)
  | ((with_reducible refine ix_mapT ?_ ?_); omega)
  | ((with_reducible refine o_modIN ?_ ?_); omega)
  | ((with_reducible refine o_divIN ?_ ?_ ?_); omega; omega)
  | ((with_reducible refine o_mulIN ?_ ?_); omega)
  | ((with_reducible refine o_mulNI ?_ ?_); omega)
  | ((with_reducible refine o_mulNN ?_ ?_); omega)
  | ((with_reducible refine o_mul1 ?_ ?_); omega)
  | ((with_reducible refine o_mulC ?_ ?_); omega)
  | ((with_reducible refine br_dt ?_ ?_); omega)
  | ((with_reducible refine br_df ?_ ?_); omega)
  | ((with_reducible refine o_addT ?_ ?_); (focus (simp [bigN]; done)))
  | ((with_reducible refine o_addL ?_ ?_); (focus (simp [bigN]; done)))
  | ((with_reducible refine br_dt ?_ ?_); exact rfl)
  | ((with_reducible refine br_df ?_ ?_); exact Bool.false_ne_true)
  | ((with_reducible refine br_df ?_ ?_); exact (fun h => Bool.false_ne_true h.symm))
  | ((with_reducible refine w_xis_t ?_ ?_); decide +kernel)
  | ((with_reducible refine w_xis_f ?_ ?_); decide +kernel)
  | ((with_reducible refine w_xf1 ?_ ?_); decide +kernel)
  | ((with_reducible refine tryq_t ?_ ?_ ?_); (focus (simp; done)); decide +kernel; dsimp only [List.set])
  | ((with_reducible refine tryq_f ?_ ?_ ?_); (focus (simp; done)); decide +kernel))
section
variable {n m : Nat} {r : Nat → Nat → Bool} {l : List Nat} {S : Sto} {R : XV → Sto → Prop} {Q : D → Sto → Prop}
theorem idx_at : ∀ {l : List Nat} {i : Nat}, l.Nodup → i < l.length → l.idxOf l[i]! = i
  | [], _, _, h => (absurd h (Nat.not_lt_zero _))
  | x :: l, 0, _, _ => by
    show (x :: l).idxOf x = 0
    simp [List.idxOf_cons]
  | x :: l, i + 1, nd, h => by
    have hi : i < l.length := by simpa using h
    have e : (x :: l)[i + 1]! = l[i]! := by
      rw [getElem!_pos (x :: l) (i + 1) h, getElem!_pos l i hi]
      rfl
    have nd2 := List.nodup_cons.mp nd
    have ne : x ≠ l[i]! := fun e => nd2.1 (by rw [e, getElem!_pos l i hi]; exact List.getElem_mem hi)
    rw [e, List.idxOf_cons, beq_false_of_ne ne, idx_at nd2.2 hi]
    rfl
theorem at_idx : ∀ {l : List Nat} {i : Nat}, i ∈ l → l[l.idxOf i]! = i
  | [], _, h => by cases h
  | x :: l, i, h => by
    rw [List.idxOf_cons]
    by_cases e : x = i
    · rw [show (x == i) = true from beq_iff_eq.mpr e]
      exact e
    · rw [beq_false_of_ne e]
      have hm : i ∈ l := (List.mem_cons.mp h).resolve_left fun q => e q.symm
      have hlt := List.idxOf_lt_length_iff.mpr hm
      have h2 := at_idx hm
      rw [getElem!_pos l _ hlt] at h2
      show (x :: l)[l.idxOf i + 1]! = i
      rw [getElem!_pos (x :: l) _ (by simpa using hlt)]
      exact h2
/-- a row of numbers, each one once -/
structure Nm (n : Nat) (l : List Nat) : Prop where
  len : l.length = n
  nd : l.Nodup
  mem : ∀ x, x ∈ l ↔ x < n
theorem Nm.of (h : List.Perm l (List.range n)) : Nm n l := ⟨by rw [h.length_eq, List.length_range], h.nodup_iff.mpr List.nodup_range, fun x => by rw [h.mem_iff, List.mem_range]⟩
theorem Nm.lt (h : Nm n l) {i : Nat} (hi : i < n) : l[i]! < n := (h.mem _).mp (by rw [getElem!_pos l i (by rw [h.len]; exact hi)]; exact List.getElem_mem _)
theorem Nm.idx (h : Nm n l) {i : Nat} (hi : i < n) : l.idxOf l[i]! = i := idx_at h.nd (by rw [h.len]; exact hi)
theorem Nm.at (h : Nm n l) {i : Nat} (hi : i < n) : l[l.idxOf i]! = i := at_idx ((h.mem i).mpr hi)
theorem Nm.idxlt (h : Nm n l) {i : Nat} (hi : i < n) : l.idxOf i < n := by
  have := List.idxOf_lt_length_iff.mpr ((h.mem i).mpr hi)
  rwa [h.len] at this
/-- the order, its points named anew -/
def nmR (n : Nat) (l : List Nat) (r : Nat → Nat → Bool) (a b : Nat) : Bool := decide (a < n) && (decide (b < n) && r (l.idxOf a) (l.idxOf b))
theorem nm_at (h : Nm n l) {x y : Nat} (hx : x < n) (hy : y < n) : nmR n l r l[x]! l[y]! = r x y := by
  unfold nmR
  rw [decide_eq_true (h.lt hx), decide_eq_true (h.lt hy), h.idx hx, h.idx hy]
  rfl
theorem nd_map {α β : Type} {f : α → β} {l : List α} (nd : l.Nodup) (h : ∀ a ∈ l, ∀ b ∈ l, f a = f b → a = b) : (l.map f).Nodup :=
  List.pairwise_map.mpr (List.Pairwise.imp_of_mem (fun ha hb ne e => ne (h _ ha _ hb e)) nd)
theorem sort_to {N : Nat} {r : Nat → Nat → Bool} {P : List (Nat × Nat)} (nd : P.Nodup) (h : ∀ x y, (x, y) ∈ P ↔ (x, y) ∈ canon N r) (S : Sto) : dSorted [.lst (P.map pD)] S = .ok (.lst ((canon N r).map pD)) S := by
  rw [K07.sorted_all]
  obtain ⟨ls, h1, h2, h3⟩ := sort_nat P
  rw [h1]
  have nd2 : ls.Nodup := h2.nodup_iff.mpr nd
  rw [lex_ext ((List.Pairwise.and h3 nd2).imp fun {a b} h => h.1.resolve_left h.2) (canon_lex N r) fun ⟨x, y⟩ => by rw [h2.mem_iff]; exact h x y]
theorem w_told (hn : n ≤ 64) (hl : Nm n l) (k : Q (ordD n (canon n (nmR n l r))) S) : W (F__law_told [lessD n r, .lst (l.map dN)] S) R Q := by
  refine go__law_told ?_
  have hll := hl.len
  (repeat decreasing_trivial_pre_omega)
  refine for_r (fun i env T => ∃ x3, env = [some (lessD n r), some (.lst (l.map dN)), some (.lst ((((List.range i).flatMap fun x => ((List.range n).filter fun y => r x y).map fun y => (x, y)).map fun q => (l[q.1]!, l[q.2]!)).map pD)), x3, none] ∧ T = S) ⟨_, rfl, rfl⟩ ?_ ?_
  · rintro i hi env T ⟨x3, rfl, rfl⟩
    (repeat decreasing_trivial_pre_omega)
    refine lc_pure (L := List.range n) (mk := dN) (p := fun y => r i y) (v := fun y => pD (l[i]!, l[y]!)) (by simp [bigN]; omega) (fun y hy => ?_) ?_
    · have hy := List.mem_range.mp hy
      dsimp only [wipeE, List.set]
      (repeat decreasing_trivial_pre_omega)
      exact ⟨rfl, rfl, fun _ => by (repeat decreasing_trivial_pre_omega); exact ⟨rfl, rfl⟩⟩
    refine w_ok (a := .lst (((((List.range n).filter fun y => r i y).map fun y => (i, y)).map fun q => (l[q.1]!, l[q.2]!)).map pD)) (S := T) (by rw [List.map_map, (List.map_map)]; rfl) ?_
    have hb1 := canon_takeLen n r i
    have hb2 : ((List.range n).filter fun y => r i y).length ≤ n := Nat.le_trans (List.length_filter_le _ _) (by simp)
    have hb3 : i * n ≤ 64 * 64 := Nat.mul_le_mul (by omega) hn
    refine o_addL (by simp only [List.length_map, bigN]; omega) ?_
    (repeat decreasing_trivial_pre_omega)
    refine ⟨some (dN i), ?_, rfl⟩
    rw [canon_take, List.map_append, (List.map_append)]
  rintro env T ⟨x3, rfl, rfl⟩
  (repeat decreasing_trivial_pre_omega)
  refine w_ok (sort_to (N := n) (r := nmR n l r) ?_ (fun a b => ?_) T) ?_
  · refine nd_map (canon_nodup n r) ?_
    rintro ⟨a, b⟩ ha ⟨c, d⟩ hc e
    have h1 := mem_canon.mp ha
    have h2 := mem_canon.mp hc
    have e1 := congrArg (fun v => l.idxOf v) (Prod.mk.inj e).1
    have e2 := congrArg (fun v => l.idxOf v) (Prod.mk.inj e).2
    have e1 : l.idxOf l[a]! = l.idxOf l[c]! := e1
    have e2 : l.idxOf l[b]! = l.idxOf l[d]! := e2
    rw [hl.idx h1.1, hl.idx h2.1] at e1
    rw [hl.idx h1.2.1, hl.idx h2.2.1] at e2
    rw [e1, e2]
  · show (a, b) ∈ (canon n r).map (fun q => (l[q.1]!, l[q.2]!)) ↔ _
    rw [mem_canon, List.mem_map]
    constructor
    · rintro ⟨⟨x, y⟩, h1, e⟩
      obtain ⟨h2, h3, h4⟩ := mem_canon.mp h1
      cases e
      exact ⟨hl.lt h2, hl.lt h3, by rw [nm_at hl h2 h3]; exact h4⟩
    · rintro ⟨h1, h2, h3⟩
      have h4 : r (l.idxOf a) (l.idxOf b) = true := by
        unfold nmR at h3
        rwa [decide_eq_true h1, decide_eq_true h2] at h3
      refine ⟨(l.idxOf a, l.idxOf b), mem_canon.mpr ⟨hl.idxlt h1, hl.idxlt h2, h4⟩, ?_⟩
      show (l[l.idxOf a]!, l[l.idxOf b]!) = (a, b)
      rw [hl.at h1, hl.at h2]
  (repeat decreasing_trivial_pre_omega)
  exact fin_p0 ⟨trivial, cls_map (cl_pD _) _, trivial⟩ k
end
end K58

namespace K58
open PySem L2 Z V K06
open PySem.Spec PyProof.Rows
variable [Tabs]
set_option synthInstance.maxHeartbeats 0
set_option synthInstance.maxSize 1000000
local macro_rules | `(tactic| decreasing_trivial_pre_omega) => `(tactic| first
  | ((with_reducible refine ix_less ?_ ?_); omega)
  | ((with_reducible refine ix_rowB ?_ ?_); omega)
  | (with_reducible refine len_less ?_)
  | (with_reducible refine E1.imp ?_)
  | ((with_reducible refine rng1_n ?_ ?_); omega)
  | ((with_reducible refine rng2_n ?_ ?_ ?_); omega; omega)
  | ((with_reducible refine o_subN ?_ ?_); omega)
  | ((with_reducible refine o_mulN ?_ ?_); omega)
  | ((with_reducible refine o_divN ?_ ?_ ?_); omega; omega)
  | ((with_reducible refine o_modN ?_ ?_); omega)
  | ((with_reducible refine o_shl1 ?_ ?_); omega)
  | ((with_reducible refine ix_rngL ?_ ?_); omega)
  | ((with_reducible refine ix_tab ?_ ?_); omega)
  | ((with_reducible refine ix_mapL ?_ ?_); omega)
  | ((with_reducible refine ix_mapT ?_ ?_); omega)
  | ((with_reducible refine o_modIN ?_ ?_); omega)
  | ((with_reducible refine o_divIN ?_ ?_ ?_); omega; omega)
  | ((with_reducible refine o_mulIN ?_ ?_); omega)
  | ((with_reducible refine o_mulNI ?_ ?_); omega)
  | ((with_reducible refine o_mulNN ?_ ?_); omega)
  | ((with_reducible refine o_mul1 ?_ ?_); omega)
  | ((with_reducible refine o_mulC ?_ ?_); omega)
  | ((with_reducible refine br_dt ?_ ?_); omega)
  | ((with_reducible refine br_df ?_ ?_); omega)
  | ((with_reducible refine o_addT ?_ ?_); (focus (simp [bigN]; done)))
  | ((with_reducible refine o_addL ?_ ?_); (focus (simp [bigN]; done)))
  | ((with_reducible refine br_dt ?_ ?_); exact rfl)
  | ((with_reducible refine br_df ?_ ?_); exact Bool.false_ne_true)
  | ((with_reducible refine br_df ?_ ?_); exact (fun h => Bool.false_ne_true h.symm))
  | ((with_reducible refine w_xis_t ?_ ?_); decide +kernel)
  | ((with_reducible refine w_xis_f ?_ ?_); decide +kernel)
  | ((with_reducible refine w_xf1 ?_ ?_); decide +kernel)
  | ((with_reducible refine tryq_t ?_ ?_ ?_); (focus (simp; done)); decide +kernel; dsimp only [List.set])
  | ((with_reducible refine tryq_f ?_ ?_ ?_); (focus (simp; done)); decide +kernel))
section
variable {n : Nat} {r : Nat → Nat → Bool} {l : List Nat} {S : Sto} {R : XV → Sto → Prop} {Q : D → Sto → Prop}
theorem o_eqLN {l l' : List Nat} (k : Q (.bl (decide (l = l'))) S) : W (dEq (.lst (l.map dN)) (.lst (l'.map dN)) S) R Q := by
  have e : dEq (.lst (l.map dN)) (.lst (l'.map dN)) S = .ok (.bl (decide (l = l'))) S := by
    show dEqD false _ _ S = _
    have t : ∀ l : List Nat, Z.toP S (.lst (l.map dN)) = some (.list (l.map nP)) := fun l => by
      unfold Z.toP
      rw [toPs_N]
      rfl
    have sh : ∀ l : List Nat, SeqAt.shaped (.list (l.map nP)) = true := fun l => shaped_map (fun _ _ => rfl) (fun _ _ => Nat.zero_le _)
    unfold dEqD
    rw [t l, t l']
    simp only [sh, and_self, if_true, PyData.eqv, eqvA_N]
    rfl
  exact w_ok e k
abbrev chD (c : List Nat) : D := .tup (c.map dN)
/-- may the chain go on by x -/
def okC (r : Nat → Nat → Bool) (x : Nat) (c : List Nat) : Bool := match c.getLast? with
  | none => true
  | some z => r z x
def stepC (r : Nat → Nat → Bool) (F : List (List Nat)) (x : Nat) : List (List Nat) := F ++ (F.filter (okC r x)).map (· ++ [x])
def chs (r : Nat → Nat → Bool) (ls : List Nat) : List (List Nat) := ls.foldl (stepC r) [[]]
theorem chs_add {ls : List Nat} {x : Nat} : chs r (ls ++ [x]) = stepC r (chs r ls) x := by unfold chs; rw [List.foldl_append]; rfl
theorem step_len {F : List (List Nat)} {x : Nat} : (stepC r F x).length ≤ 2 * F.length := by
  unfold stepC
  rw [List.length_append, List.length_map]
  have := List.length_filter_le (okC r x) F
  omega
theorem take_one {α : Type} {l : List α} {i : Nat} (h : i < l.length) : l.take (i + 1) = l.take i ++ [l[i]] := by
  rw [List.take_add_one, List.getElem?_eq_getElem h]
  rfl
def cntB (n : Nat) (r : Nat → Nat → Bool) (x : Nat) : Nat := ((List.range n).filter fun y => r y x).length
/-- a row of all points, each behind those below it -/
structure Rkd (n : Nat) (r : Nat → Nat → Bool) (ls : List Nat) : Prop where
  per : ls.Perm (List.range n)
  ord : ls.Pairwise fun a b => r b a = false
theorem cnt_lt (hU : Up n r) {x y : Nat} (h : r x y = true) : cntB n r x < cntB n r y := by
  unfold cntB
  have h2 := hU.lt x y h
  refine Nat.lt_of_lt_of_le (m := (((List.range n).filter fun z => r z y).filter fun z => r z x).length + 1) ?_ ?_
  · refine Nat.lt_succ_of_le ?_
    rw [List.filter_filter]
    refine Nat.le_of_eq (congrArg List.length (List.filter_congr fun z hz => ?_))
    cases q : r z x with
    | false => rfl
    | true => rw [hU.tr z x y q h]; rfl
  · refine List.length_filter_lt_length_iff_exists.mpr ⟨x, List.mem_filter.mpr ⟨List.mem_range.mpr (by omega), h⟩, fun q => ?_⟩
    have := hU.lt x x q
    omega
theorem w_chains (hn : n ≤ 8) (hU : Up n r) (k : ∀ ls, Rkd n r ls → Q (.lst (((chs r ls).filter fun c => decide (0 < c.length)).map chD)) S) : W (F__law_chain_list [lessD n r] S) R Q := by
  refine go__law_chain_list ?_
  (repeat decreasing_trivial_pre_omega)
  refine lc_map (L := List.range n) (mk := dN) (v := fun x => pD (cntB n r x, x)) (by simp [bigN]; omega) (fun x hx => ?_) ?_
  · have hx := List.mem_range.mp hx
    dsimp only [wipeE, List.set]
    (repeat decreasing_trivial_pre_omega)
    refine lc_pure (L := List.range n) (mk := dN) (p := fun y => r y x) (v := dN) (by simp [bigN]; omega) (fun y hy => ?_) ?_
    · have hy := List.mem_range.mp hy
      dsimp only [wipeE, List.set]
      (repeat decreasing_trivial_pre_omega)
      exact ⟨rfl, rfl, fun _ => by (repeat decreasing_trivial_pre_omega); exact ⟨rfl, rfl⟩⟩
    refine w_ok (a := .lst (((List.range n).filter fun y => r y x).map dN)) (S := S) rfl ?_
    (repeat decreasing_trivial_pre_omega)
    exact ⟨rfl, rfl⟩
  refine w_ok (a := .lst (((List.range n).map fun x => (cntB n r x, x)).map pD)) (S := S) (by rw [List.map_map]; rfl) ?_
  (repeat decreasing_trivial_pre_omega)
  refine w_ok (K07.sorted_all _ S) ?_
  obtain ⟨ps, e1, e2, e3⟩ := sort_nat ((List.range n).map fun x => (cntB n r x, x))
  rw [e1]
  have hps : ∀ p ∈ ps, p.2 < n ∧ p.1 = cntB n r p.2 := fun p hp => by
    obtain ⟨x, hx, rfl⟩ := List.mem_map.mp (e2.mem_iff.mp hp)
    exact ⟨List.mem_range.mp hx, rfl⟩
  have hlen : ps.length = n := by rw [e2.length_eq]; simp
  have hR : Rkd n r (ps.map (·.2)) := by
    refine ⟨?_, List.pairwise_map.mpr (e3.imp_of_mem fun {a b} ha hb h => ?_)⟩
    · have := e2.map (·.2)
      rw [List.map_map] at this
      exact this.trans (by rw [show ((fun p : Nat × Nat => p.2) ∘ fun x => (cntB n r x, x)) = id from rfl, List.map_id])
    · cases q : r b.2 a.2 with
      | false => rfl
      | true =>
        have h1 := cnt_lt hU q
        have h2 := (hps a ha).2
        have h3 := (hps b hb).2
        rcases h with rfl | h
        · omega
        · have h : a.1 < b.1 ∨ a.1 = b.1 ∧ a.2 < b.2 := h
          omega
  (repeat decreasing_trivial_pre_omega)
  refine for_n ps (mk := pD) (fun i env T => T = S ∧ ∃ x4 x5, env = [some (lessD n r), some (dN n), some (.lst (ps.map pD)), some (.lst ((chs r ((ps.map (·.2)).take i)).map chD)), x4, x5, none, none] ∧ (chs r ((ps.map (·.2)).take i)).length ≤ 2 ^ i ∧ ∀ c ∈ chs r ((ps.map (·.2)).take i), c.length ≤ i ∧ ∀ z ∈ c, z < n) ⟨rfl, _, _, rfl, Nat.le_refl _, fun c hc => by rw [List.mem_singleton.mp hc]; exact ⟨Nat.le_refl _, fun z hz => by cases hz⟩⟩ ?_ ?_
  · rintro i hi env T ⟨rfl, x4, x5, rfl, hlen2, hcs⟩
    obtain ⟨p1, p2⟩ := hps ps[i] (List.getElem_mem hi)
    obtain ⟨F, hF⟩ : ∃ F, chs r ((ps.map (·.2)).take i) = F := ⟨_, rfl⟩
    have hF2 : chs r ((ps.map (·.2)).take (i + 1)) = stepC r F ps[i].2 := by
      rw [take_one (by simpa using hi), chs_add, hF, List.getElem_map]
    rw [hF2]
    rw [hF] at hlen2 hcs ⊢
    have hpw : 2 ^ i ≤ 2 ^ 8 := Nat.pow_le_pow_right (by decide) (by omega)
    (repeat decreasing_trivial_pre_omega)
    refine lc_pure (L := F) (mk := chD) (p := okC r ps[i].2) (v := fun c => chD (c ++ [ps[i].2])) (by simp [bigN]; omega) (fun c hc => ?_) ?_
    · obtain ⟨c1, c2⟩ := hcs c hc
      dsimp only [wipeE, List.set]
      have add : W (zOp dAdd (zVar 6) (zTup (zCons (zVar 5) zNil)) [some (lessD n r), some (dN n), some (.lst (ps.map pD)), some (.lst (F.map chD)), some (dN ps[i].1), some (dN ps[i].2), some (chD c), none] T) N0 fun d T1 => d = chD (c ++ [ps[i].2]) ∧ T1 = T := by
        (repeat decreasing_trivial_pre_omega)
        refine o_addT (by simp [bigN]; omega) ?_
        exact ⟨(show D.tup ((c ++ [ps[i].2]).map dN) = D.tup (c.map dN ++ [dN ps[i].2]) by rw [List.map_append]; rfl).symm, rfl⟩
      (repeat decreasing_trivial_pre_omega)
      refine br_d (fun h => ?_) (fun h => ?_)
      · have hc0 : c = [] := List.eq_nil_of_length_eq_zero h
        exact ⟨by rw [hc0]; rfl, rfl, fun _ => add⟩
      · rcases List.eq_nil_or_concat c with e | ⟨c', z, e⟩
        · exact absurd (by rw [e]; rfl) h
        · rw [List.concat_eq_append] at e
          have hz : z < n := c2 z (by rw [e]; simp)
          have hok : okC r ps[i].2 c = r z ps[i].2 := by unfold okC; rw [e, List.getLast?_concat]
          (repeat decreasing_trivial_pre_omega)
          refine ix_last (xs := c'.map dN) (d := dN z) (by rw [e]; show some ((c' ++ [z]).map dN) = _; rw [List.map_append]; rfl) ?_
          (repeat decreasing_trivial_pre_omega)
          exact ⟨hok.symm, rfl, fun _ => add⟩
    refine w_ok (a := .lst (((F.filter (okC r ps[i].2)).map (· ++ [ps[i].2])).map chD)) (S := T) (by rw [List.map_map]; rfl) ?_
    have hfl := List.length_filter_le (okC r ps[i].2) F
    refine o_addL (by simp only [List.length_map, bigN]; omega) ?_
    rw [← List.map_append]
    (repeat decreasing_trivial_pre_omega)
    refine ⟨rfl, _, _, rfl, ?_, fun c hc => ?_⟩
    · have := step_len (r := r) (F := F) (x := ps[i].2)
      rw [Nat.pow_succ]; omega
    · rcases (List.mem_append.mp hc) with hc | hc
      · obtain ⟨c1, c2⟩ := hcs c hc
        exact ⟨by omega, c2⟩
      · obtain ⟨c0, hc0, rfl⟩ := List.mem_map.mp hc
        obtain ⟨c1, c2⟩ := hcs c0 (List.mem_filter.mp hc0).1
        refine ⟨by simp; omega, fun z hz => ?_⟩
        rcases (List.mem_append.mp hz) with hz | hz
        · exact c2 z hz
        · rw [List.mem_singleton.mp hz]; exact p1
  · rintro env T ⟨rfl, x4, x5, rfl, hlen2, hcs⟩
    rw [List.take_of_length_le (by simp)] at hlen2 hcs ⊢
    have hpw : 2 ^ ps.length ≤ 2 ^ 8 := Nat.pow_le_pow_right (by decide) (by omega)
    (repeat decreasing_trivial_pre_omega)
    refine lc_pure (L := chs r (ps.map (·.2))) (mk := chD) (p := fun c => decide (0 < c.length)) (v := chD) (by simp [bigN]; omega) (fun c hc => ?_) ?_
    · dsimp only [wipeE, List.set]
      (repeat decreasing_trivial_pre_omega)
      exact ⟨rfl, rfl, fun _ => by (repeat decreasing_trivial_pre_omega); exact ⟨rfl, rfl⟩⟩
    refine w_ok (a := .lst (((chs r (ps.map (·.2))).filter fun c => decide (0 < c.length)).map chD)) (S := T) rfl ?_
    exact fin_p0 (cls_map (f := chD) (fun c => cl_nats c) _) (k _ hR)
end
end K58

namespace K58
open PySem L2 Z V K06
open PySem.Spec PyProof.Rows
variable [Tabs]
set_option synthInstance.maxHeartbeats 0
set_option synthInstance.maxSize 1000000
local macro_rules | `(tactic| decreasing_trivial_pre_omega) => `(tactic| first
  | ((with_reducible refine ix_less ?_ ?_); omega)
  | ((with_reducible refine ix_rowB ?_ ?_); omega)
  | (with_reducible refine len_less ?_)
  | (with_reducible refine E1.imp ?_)
  | ((with_reducible refine rng1_n ?_ ?_); omega)
  | ((with_reducible refine rng2_n ?_ ?_ ?_); omega; omega)
  | ((with_reducible refine o_subN ?_ ?_); omega)
  | ((with_reducible refine o_mulN ?_ ?_); omega)
  | ((with_reducible refine o_divN ?_ ?_ ?_); omega; omega)
  | ((with_reducible refine o_modN ?_ ?_); omega)
  | ((with_reducible refine o_shl1 ?_ ?_); omega)
  | ((with_reducible refine ix_rngL ?_ ?_); omega)
  | ((with_reducible refine ix_tab ?_ ?_); omega)
  | ((with_reducible refine ix_mapL ?_ ?_); omega)
  | ((with_reducible refine ix_mapT ?_ ?_); omega)
  | ((with_reducible refine o_modIN ?_ ?_); omega)
  | ((with_reducible refine o_divIN ?_ ?_ ?_); omega; omega)
  | ((with_reducible refine o_mulIN ?_ ?_); omega)
  | ((with_reducible refine o_mulNI ?_ ?_); omega)
  | ((with_reducible refine o_mulNN ?_ ?_); omega)
  | ((with_reducible refine o_mul1 ?_ ?_); omega)
  | ((with_reducible refine o_mulC ?_ ?_); omega)
  | ((with_reducible refine br_dt ?_ ?_); omega)
  | ((with_reducible refine br_df ?_ ?_); omega)
  | ((with_reducible refine o_addT ?_ ?_); (focus (simp [bigN]; done)))
  | ((with_reducible refine o_addL ?_ ?_); (focus (simp [bigN]; done)))
  | ((with_reducible refine br_dt ?_ ?_); exact rfl)
  | ((with_reducible refine br_df ?_ ?_); exact Bool.false_ne_true)
  | ((with_reducible refine br_df ?_ ?_); exact (fun h => Bool.false_ne_true h.symm))
  | ((with_reducible refine w_xis_t ?_ ?_); decide +kernel)
  | ((with_reducible refine w_xis_f ?_ ?_); decide +kernel)
  | ((with_reducible refine w_xf1 ?_ ?_); decide +kernel)
  | ((with_reducible refine tryq_t ?_ ?_ ?_); (focus (simp; done)); decide +kernel; dsimp only [List.set])
  | ((with_reducible refine tryq_f ?_ ?_ ?_); (focus (simp; done)); decide +kernel))
section
variable {n m : Nat} {r : Nat → Nat → Bool} {row l : List Nat} {S : Sto} {R : XV → Sto → Prop} {Q : D → Sto → Prop}
/-- what a chain counts for: its points all fixed -/
def wC (row : List Nat) (c : List Nat) : Int := if c.map (fun x => row[x]!) = c then (1 : Int) - ((2 * ((c.length + 1) % 2) : Nat) : Int) else 0
theorem chs_in {ls : List Nat} : ∀ c ∈ chs r ls, ∀ z ∈ c, z ∈ ls := by
  suffices h : ∀ (ls : List Nat) (F : List (List Nat)) (p : Nat → Prop), (∀ c ∈ F, ∀ z ∈ c, p z) → ∀ c ∈ ls.foldl (stepC r) F, ∀ z ∈ c, p z ∨ z ∈ ls by
    intro c hc z hz
    exact (h ls [[]] (fun _ => False) (fun c hc z hz => by rw [List.mem_singleton.mp hc] at hz; cases hz) c hc z hz).resolve_left id
  intro ls
  induction ls with
  | nil => exact fun F p h c hc z hz => .inl (h c hc z hz)
  | cons x ls ih =>
    intro F p h c hc z hz
    have := ih (stepC r F x) (fun z => p z ∨ z = x) (fun c hc z hz => by
      unfold stepC at hc
      rcases (List.mem_append.mp hc) with hc | hc
      · exact .inl (h c hc z hz)
      · obtain ⟨c0, hc0, rfl⟩ := List.mem_map.mp hc
        rcases (List.mem_append.mp hz) with hz | hz
        · exact .inl (h c0 (List.mem_filter.mp hc0).1 z hz)
        · exact .inr (List.mem_singleton.mp hz)) c hc z hz
    rcases this with (h | rfl) | h
    · exact .inl h
    · exact .inr List.mem_cons_self
    · exact .inr (List.mem_cons_of_mem _ h)
theorem chs_ln {ls : List Nat} : ∀ c ∈ chs r ls, c.length ≤ ls.length := by
  suffices h : ∀ (ls : List Nat) (F : List (List Nat)) (k : Nat), (∀ c ∈ F, c.length ≤ k) → ∀ c ∈ ls.foldl (stepC r) F, c.length ≤ k + ls.length by
    intro c hc
    have := h ls [[]] 0 (fun c hc => by rw [List.mem_singleton.mp hc]; exact Nat.le_refl _) c hc
    omega
  intro ls
  induction ls with
  | nil => exact fun F k h c hc => h c hc
  | cons x ls ih =>
    intro F k h c hc
    have := ih (stepC r F x) (k + 1) (fun c hc => by
      unfold stepC at hc
      rcases (List.mem_append.mp hc) with hc | hc
      · have := h c hc; omega
      · obtain ⟨c0, hc0, rfl⟩ := List.mem_map.mp hc
        have := h c0 (List.mem_filter.mp hc0).1
        simp; omega) c hc
    simp only [List.length_cons]
    omega
theorem w_traced {rd : D} (hn : n ≤ 8) (hU : Up n r) (hrd : anyOf rd S = some (row.map dN)) (hlen : row.length = n) (k : ∀ ls, Rkd n r ls → Q (.int ((((chs r ls).filter fun c => decide (0 < c.length)).map (wC row)).sum)) S) : W (F__law_traced [lessD n r, rd] S) R Q := by
  refine go__law_traced ?_
  (repeat decreasing_trivial_pre_omega)
  refine w_chains hn hU fun ls hR => ?_
  obtain ⟨Cs, hCs⟩ : ∃ Cs, ((chs r ls).filter fun c => decide (0 < c.length)) = Cs := ⟨_, rfl⟩
  have hlt : ∀ c ∈ Cs, ∀ z ∈ c, z < n := fun c hc z hz => by
    rw [← hCs] at hc
    exact List.mem_range.mp (hR.per.mem_iff.mp (chs_in c (List.mem_filter.mp hc).1 z hz))
  have hln : ∀ c ∈ Cs, c.length ≤ 8 := fun c hc => by
    rw [← hCs] at hc
    have := chs_ln c (List.mem_filter.mp hc).1
    rw [hR.per.length_eq, List.length_range] at this
    omega
  have k2 : Q (.int ((Cs.map (wC row)).sum)) S := by rw [← hCs]; exact k ls hR
  rw [hCs]
  clear hCs
  (repeat decreasing_trivial_pre_omega)
  refine for_l (L := Cs) (mk := chD) (fun L env T => T = S ∧ ∃ (tot : Int) (x3 : Option D), env = [some (lessD n r), some rd, some (.int tot), x3, none] ∧ tot + (L.map (wC row)).sum = (Cs.map (wC row)).sum ∧ ∀ c ∈ L, c ∈ Cs) ⟨rfl, 0, _, rfl, by simp, fun _ h => h⟩ ?_ ?_
  · rintro c L env T _ ⟨rfl, tot, x3, rfl, htot, hL⟩
    have hc := hlt c (hL c List.mem_cons_self)
    rw [List.map_cons, List.sum_cons] at htot
    (repeat decreasing_trivial_pre_omega)
    refine lc_map (L := c) (mk := dN) (v := fun x => dN row[x]!) ?_ (fun x hx => ?_) ?_
    · have := hln c (hL c List.mem_cons_self)
      simp only [bigN]; omega
    · have hx := hc x hx
      dsimp only [wipeE, List.set]
      (repeat decreasing_trivial_pre_omega)
      refine ix_gen hrd (by rw [List.getElem?_map, List.getElem?_eq_getElem (by omega)]; rfl) ?_
      exact ⟨by rw [getElem!_pos row x (by omega)], rfl⟩
    refine w_ok (a := .lst ((c.map fun x => row[x]!).map dN)) (S := T) (by rw [List.map_map]; rfl) ?_
    (repeat decreasing_trivial_pre_omega)
    refine b_list (xs := c.map dN) rfl ?_
    refine o_eqLN ?_
    (repeat decreasing_trivial_pre_omega)
    refine br_d (fun h => ?_) (fun h => ?_)
    · (repeat decreasing_trivial_pre_omega)
      refine ⟨rfl, _, _, rfl, ?_, fun c hc => hL c (List.mem_cons_of_mem _ hc)⟩
      unfold wC at htot ⊢
      rw [if_pos h] at htot
      omega
    · (repeat decreasing_trivial_pre_omega)
      refine ⟨rfl, tot, _, rfl, ?_, fun c hc => hL c (List.mem_cons_of_mem _ hc)⟩
      unfold wC at htot ⊢
      rw [if_neg h] at htot
      omega
  · rintro env T ⟨rfl, tot, x3, rfl, htot, _⟩
    have e : tot = (Cs.map (wC row)).sum := by rw [← htot]; simp
    subst e
    (repeat decreasing_trivial_pre_omega)
    exact fin_p0 trivial k2
end
end K58

namespace K58
open PySem L2 Z V K06
open PySem.Spec PyProof.Rows
variable [Tabs]
set_option synthInstance.maxHeartbeats 0
set_option synthInstance.maxSize 1000000
local macro_rules | `(tactic| decreasing_trivial_pre_omega) => `(tactic| first
  | ((with_reducible refine ix_less ?_ ?_); omega)
  | ((with_reducible refine ix_rowB ?_ ?_); omega)
  | (with_reducible refine len_less ?_)
  | (with_reducible refine E1.imp ?_)
  | ((with_reducible refine rng1_n ?_ ?_); omega)
  | ((with_reducible refine rng2_n ?_ ?_ ?_); omega; omega)
  | ((with_reducible refine o_subN ?_ ?_); omega)
  | ((with_reducible refine o_mulN ?_ ?_); omega)
  | ((with_reducible refine o_divN ?_ ?_ ?_); omega; omega)
  | ((with_reducible refine o_modN ?_ ?_); omega)
  | ((with_reducible refine o_shl1 ?_ ?_); omega)
  | ((with_reducible refine ix_rngL ?_ ?_); omega)
  | ((with_reducible refine ix_tab ?_ ?_); omega)
  | ((with_reducible refine ix_mapL ?_ ?_); omega)
  | ((with_reducible refine ix_mapT ?_ ?_); omega)
  | ((with_reducible refine o_modIN ?_ ?_); omega)
  | ((with_reducible refine o_divIN ?_ ?_ ?_); omega; omega)
  | ((with_reducible refine o_mulIN ?_ ?_); omega)
  | ((with_reducible refine o_mulNI ?_ ?_); omega)
  | ((with_reducible refine o_mulNN ?_ ?_); omega)
  | ((with_reducible refine o_mul1 ?_ ?_); omega)
  | ((with_reducible refine o_mulC ?_ ?_); omega)
  | ((with_reducible refine br_dt ?_ ?_); omega)
  | ((with_reducible refine br_df ?_ ?_); omega)
  | ((with_reducible refine o_addT ?_ ?_); (focus (simp [bigN]; done)))
  | ((with_reducible refine o_addL ?_ ?_); (focus (simp [bigN]; done)))
  | ((with_reducible refine br_dt ?_ ?_); exact rfl)
  | ((with_reducible refine br_df ?_ ?_); exact Bool.false_ne_true)
  | ((with_reducible refine br_df ?_ ?_); exact (fun h => Bool.false_ne_true h.symm))
  | ((with_reducible refine w_xis_t ?_ ?_); decide +kernel)
  | ((with_reducible refine w_xis_f ?_ ?_); decide +kernel)
  | ((with_reducible refine w_xf1 ?_ ?_); decide +kernel)
  | ((with_reducible refine tryq_t ?_ ?_ ?_); (focus (simp; done)); decide +kernel; dsimp only [List.set])
  | ((with_reducible refine tryq_f ?_ ?_ ?_); (focus (simp; done)); decide +kernel))
section
variable {t : Tp} {n m x v p q : Nat} {r : Nat → Nat → Bool} {row l : List Nat} {B L1 L2 S : Sto} {R : XV → Sto → Prop} {Q : D → Sto → Prop}
/-- a row of n points of n -/
structure Rw (n : Nat) (row : List Nat) : Prop where
  len : row.length = n
  lt : ∀ i, i < n → row[i]! < n
theorem w_fits (hq : S[q]? = some (.lst (row.map dN))) (hn : n ≤ 64) (hr : Rw n row) (hx : x < n) (hv : v < n) (k : ∀ b, Q (.bl b) S) : W (F__law_fits [lessD n r, .ptr q, dN x, dN v] S) R Q := by
  refine go__law_fits ?_
  have hlen := hr.len
  (repeat decreasing_trivial_pre_omega)
  refine for_r (fun i env T => T = S ∧ ∃ x4, env = [some (lessD n r), some (.ptr q), some (dN x), some (dN v), x4]) ⟨rfl, _, rfl⟩ ?_ ?_
  · rintro y hy env T ⟨rfl, x4, rfl⟩
    have hry := hr.lt y hy
    have ix : ∀ {R : XV → Sto → Prop} {Q : D → Sto → Prop}, Q (dN row[y]!) T → W (dIx (.ptr q) (dN y) T) R Q := fun k => ix_gen (anyOf_ptr hq) (by rw [List.getElem?_map, List.getElem?_eq_getElem (by omega), getElem!_pos row y (by omega)]; rfl) k
    have second : X ((zIfS (zAnd (zTru (zOp dIx (zOp dIx (zVar 0) (zVar 2)) (zVar 4))) (zAnd (zB (zOp dNe (zOp dIx (zVar 1) (zVar 4)) (zVar 3))) (zNot (zTru (zOp dIx (zOp dIx (zVar 0) (zVar 3)) (zOp dIx (zVar 1) (zVar 4))))))) (zRet (zC (.bl false))) zNext) [some (lessD n r), some (.ptr q), some (dN x), some (dN v), some (dN y)] T) (Lp (fun env T' => T' = T ∧ ∃ x4, env = [some (lessD n r), some (.ptr q), some (dN x), some (dN v), x4]) (Sq (zRet (zC (.bl true))) (FinQ 0 T R Q))) := by
      (repeat decreasing_trivial_pre_omega)
      refine br_b (fun h => ?_) (fun h => ?_)
      · (repeat decreasing_trivial_pre_omega)
        refine ix ?_
        (repeat decreasing_trivial_pre_omega)
        refine br_d (fun h => ?_) (fun h => ?_)
        · (repeat decreasing_trivial_pre_omega)
          exact ⟨rfl, _, rfl⟩
        · (repeat decreasing_trivial_pre_omega)
          refine ix ?_
          (repeat decreasing_trivial_pre_omega)
          refine br_b (fun h => ?_) (fun h => ?_)
          · (repeat decreasing_trivial_pre_omega)
            exact ⟨rfl, _, rfl⟩
          · (repeat decreasing_trivial_pre_omega)
            exact fin_p0 trivial (k _)
      · (repeat decreasing_trivial_pre_omega)
        exact ⟨rfl, _, rfl⟩
    generalize (zIfS (zAnd (zTru (zOp dIx (zOp dIx (zVar 0) (zVar 2)) (zVar 4))) (zAnd (zB (zOp dNe (zOp dIx (zVar 1) (zVar 4)) (zVar 3))) (zNot (zTru (zOp dIx (zOp dIx (zVar 0) (zVar 3)) (zOp dIx (zVar 1) (zVar 4))))))) (zRet (zC (.bl false))) zNext) = sd at second ⊢
    (repeat decreasing_trivial_pre_omega)
    refine br_b (fun h => ?_) (fun h => ?_)
    · (repeat decreasing_trivial_pre_omega)
      refine ix ?_
      (repeat decreasing_trivial_pre_omega)
      refine br_d (fun h => ?_) (fun h => ?_)
      · (repeat decreasing_trivial_pre_omega)
        exact second
      · (repeat decreasing_trivial_pre_omega)
        refine ix ?_
        (repeat decreasing_trivial_pre_omega)
        refine br_b (fun h => ?_) (fun h => ?_)
        · (repeat decreasing_trivial_pre_omega)
          exact second
        · (repeat decreasing_trivial_pre_omega)
          exact fin_p0 trivial (k _)
    · (repeat decreasing_trivial_pre_omega)
      exact second
  · rintro env T ⟨rfl, x4, rfl⟩
    (repeat decreasing_trivial_pre_omega)
    exact fin_p0 trivial (k _)
theorem fin_t1 {t t' : Tp} {xs : List D} {j : Nat} (h : B.length + 1 = p) (hj : j = p + L1.length) (hd : D.cl (B.length + 1) (.lst xs)) (k : Q (.lst xs) (stT t' B)) : FinQ 1 (stT t B) R Q (.ret (.ptr j)) (stT t' (B ++ (L1 ++ .lst xs :: L2))) := fin_a1 (K := KT) (A := stT t []) (A' := stT t' []) ktT ktT (by rw [hj, ← h]; simp [stT]) hd k
theorem Rw.set (h : Rw n row) (hv : v < n) : Rw n (row.set x v) := ⟨by rw [List.length_set]; exact h.len, fun i hi => by
  have hl := h.len
  rw [getElem!_pos _ _ (by rw [List.length_set]; omega), List.getElem_set]
  split
  · exact hv
  · have := h.lt i hi
    rwa [getElem!_pos row i (by omega)] at this⟩
theorem map_tail {t0 : Tp} (hp : B.length + 1 = p) (hj : q = p + L1.length) (hn : n ≤ 64) (hr : Rw n row) (k : ∀ row t', Rw n row → Q (.lst (row.map dN)) (stT t' B)) : X ((zSeq (zFor (zRange1 (zCons (zCallF 2 F__law_draw (zCons (zVar 0) (zCons (zOp dAdd (zOp dMul (zC (dN 4)) (zVar 2)) (zC (dN 1))) zNil))) zNil)) (zgName 4) (zSeq (zSet 5 (zCallF 2 F__law_draw (zCons (zVar 0) (zCons (zVar 2) zNil))))
    (zSeq (zSet 6 (zCallF 2 F__law_draw (zCons (zVar 0) (zCons (zVar 2) zNil))))
    (zIfS (zTru (zCallF 4 F__law_fits (zCons (zVar 1) (zCons (zVar 3) (zCons (zVar 5) (zCons (zVar 6) zNil)))))) (zPut (zVar 3) (zVar 5) (zVar 6)) zNext))))
    (zRet (zVar 3))) [some (.ptr 0), some (lessD n r), some (dN n), some (.ptr q), none, none, none] (stT t (B ++ (L1 ++ [.lst (row.map dN)])))) (FinQ 1 (stT t0 B) R Q) := by
  subst hj
  have hat : ∀ {t : Tp} {row : List Nat}, (stT t (B ++ (L1 ++ [C.lst (row.map dN)])))[p + L1.length]? = some (.lst (row.map dN)) := fun {t row} => by
    rw [t_at hp]
    simp
  have hset : ∀ {t : Tp} {row : List Nat} {c : C}, (stT t (B ++ (L1 ++ [C.lst (row.map dN)]))).set (p + L1.length) c = stT t (B ++ (L1 ++ [c])) := fun {t row c} => by
    rw [t_set hp]
    simp
  (repeat decreasing_trivial_pre_omega)
  refine w_draw (by omega) (by omega) fun w t1 hw => ?_
  (repeat decreasing_trivial_pre_omega)
  refine for_r (fun i env T => ∃ x4 x5 x6 row t', env = [some (.ptr 0), some (lessD n r), some (dN n), some (.ptr (p + L1.length)), x4, x5, x6] ∧ T = stT t' (B ++ (L1 ++ [.lst (row.map dN)])) ∧ Rw n row) ⟨_, _, _, row, _, rfl, rfl, hr⟩ ?_ ?_
  · rintro i hi env T ⟨x4, x5, x6, row, t', rfl, rfl, hr⟩
    have h0 : 0 < n := by omega
    (repeat decreasing_trivial_pre_omega)
    refine w_draw h0 (by omega) fun x t2 hx => ?_
    (repeat decreasing_trivial_pre_omega)
    refine w_draw h0 (by omega) fun v t3 hv => ?_
    (repeat decreasing_trivial_pre_omega)
    refine w_fits hat hn hr hx hv fun b => ?_
    (repeat decreasing_trivial_pre_omega)
    refine br_b (fun h => ?_) (fun h => ?_)
    · (repeat decreasing_trivial_pre_omega)
      refine put_n hat (by rw [List.length_map, hr.len]; exact hx) ?_
      rw [hset]
      exact ⟨_, _, _, row.set x v, t3, rfl, by rw [List.map_set], hr.set hv⟩
    · (repeat decreasing_trivial_pre_omega)
      exact ⟨_, _, _, row, t3, rfl, rfl, hr⟩
  · rintro env T ⟨x4, x5, x6, row, t', rfl, rfl, hr⟩
    (repeat decreasing_trivial_pre_omega)
    exact fin_t1 (L2 := []) hp rfl (cl_nats _) (k row t' hr)
theorem w_map (hn : n ≤ 64) (k : ∀ row t', Rw n row → Q (.lst (row.map dN)) (stT t' B)) : W (F__law_map [.ptr 0, lessD n r] (stT t B)) R Q := by
  refine go__law_map ?_
  obtain ⟨p, hp⟩ : ∃ p, B.length + 1 = p := ⟨_, rfl⟩
  have tail : ∀ (L1 : Sto) (q : Nat) (row : List Nat) (t' : Tp), q = p + L1.length → Rw n row → _ := fun L1 q row t' hq hr => map_tail (r := r) (t := t') (t0 := t) (R := R) (Q := Q) (row := row) (L1 := L1) (q := q) hp hq hn hr k
  generalize (zSeq (zFor (zRange1 (zCons (zCallF 2 F__law_draw (zCons (zVar 0) (zCons (zOp dAdd (zOp dMul (zC (dN 4)) (zVar 2)) (zC (dN 1))) zNil))) zNil)) (zgName 4) (zSeq (zSet 5 (zCallF 2 F__law_draw (zCons (zVar 0) (zCons (zVar 2) zNil))))
    (zSeq (zSet 6 (zCallF 2 F__law_draw (zCons (zVar 0) (zCons (zVar 2) zNil))))
    (zIfS (zTru (zCallF 4 F__law_fits (zCons (zVar 1) (zCons (zVar 3) (zCons (zVar 5) (zCons (zVar 6) zNil)))))) (zPut (zVar 3) (zVar 5) (zVar 6)) zNext))))
    (zRet (zVar 3))) = tl at tail ⊢
  have hr0 : Rw n (List.range n) := ⟨by simp, fun i hi => by rw [getElem!_pos _ _ (by simpa using hi)]; simpa using hi⟩
  (repeat decreasing_trivial_pre_omega)
  refine w_rgC ?_
  (repeat decreasing_trivial_pre_omega)
  refine ⟨n, rfl, by omega, ?_⟩
  (repeat decreasing_trivial_pre_omega)
  rw [t_len hp, stT_L]
  refine br_d (fun h => ?_) (fun h => ?_)
  · (repeat decreasing_trivial_pre_omega)
    refine w_draw (by omega) (by omega) fun w t1 hw => ?_
    (repeat decreasing_trivial_pre_omega)
    refine br_d (fun h2 => ?_) (fun h2 => ?_)
    · (repeat decreasing_trivial_pre_omega)
      refine w_draw h (by omega) fun v t2 hv => ?_
      (repeat decreasing_trivial_pre_omega)
      rw [show (stT t2 (B ++ [C.lst (List.map dN (List.range n))])).length = p + 1 by unfold stT; simp; omega, stT_L, List.append_assoc]
      have e : List.replicate n (dN v) = (List.replicate n v).map dN := by rw [List.map_replicate]
      rw [e]
      exact tail [C.lst ((List.range n).map dN)] (p + 1) (List.replicate n v) t2 rfl ⟨by simp, fun i hi => by rw [getElem!_pos _ _ (by simpa using hi)]; simpa using hv⟩
    · (repeat decreasing_trivial_pre_omega)
      exact tail [] p (List.range n) t1 rfl hr0
  · (repeat decreasing_trivial_pre_omega)
    exact tail [] p (List.range n) t rfl hr0
end
end K58

namespace K58
open PySem L2 Z V K06
open PySem.Spec PyProof.Rows
variable [Tabs]
set_option synthInstance.maxHeartbeats 0
set_option synthInstance.maxSize 1000000
local macro_rules | `(tactic| decreasing_trivial_pre_omega) => `(tactic| first
  | ((with_reducible refine ix_less ?_ ?_); omega)
  | ((with_reducible refine ix_rowB ?_ ?_); omega)
  | (with_reducible refine len_less ?_)
  | (with_reducible refine E1.imp ?_)
  | ((with_reducible refine rng1_n ?_ ?_); omega)
  | ((with_reducible refine rng2_n ?_ ?_ ?_); omega; omega)
  | ((with_reducible refine o_subN ?_ ?_); omega)
  | ((with_reducible refine o_mulN ?_ ?_); omega)
  | ((with_reducible refine o_divN ?_ ?_ ?_); omega; omega)
  | ((with_reducible refine o_modN ?_ ?_); omega)
  | ((with_reducible refine o_shl1 ?_ ?_); omega)
  | ((with_reducible refine ix_rngL ?_ ?_); omega)
  | ((with_reducible refine ix_tab ?_ ?_); omega)
  | ((with_reducible refine ix_mapL ?_ ?_); omega)
  | ((with_reducible refine ix_mapT ?_ ?_); omega)
  | ((with_reducible refine o_modIN ?_ ?_); omega)
  | ((with_reducible refine o_divIN ?_ ?_ ?_); omega; omega)
  | ((with_reducible refine o_mulIN ?_ ?_); omega)
  | ((with_reducible refine o_mulNI ?_ ?_); omega)
  | ((with_reducible refine o_mulNN ?_ ?_); omega)
  | ((with_reducible refine o_mul1 ?_ ?_); omega)
  | ((with_reducible refine o_mulC ?_ ?_); omega)
  | ((with_reducible refine br_dt ?_ ?_); omega)
  | ((with_reducible refine br_df ?_ ?_); omega)
  | ((with_reducible refine o_addT ?_ ?_); (focus (simp [bigN]; done)))
  | ((with_reducible refine o_addL ?_ ?_); (focus (simp [bigN]; done)))
  | ((with_reducible refine br_dt ?_ ?_); exact rfl)
  | ((with_reducible refine br_df ?_ ?_); exact Bool.false_ne_true)
  | ((with_reducible refine br_df ?_ ?_); exact (fun h => Bool.false_ne_true h.symm))
  | ((with_reducible refine w_xis_t ?_ ?_); decide +kernel)
  | ((with_reducible refine w_xis_f ?_ ?_); decide +kernel)
  | ((with_reducible refine w_xf1 ?_ ?_); decide +kernel)
  | ((with_reducible refine tryq_t ?_ ?_ ?_); (focus (simp; done)); decide +kernel; dsimp only [List.set])
  | ((with_reducible refine tryq_f ?_ ?_ ?_); (focus (simp; done)); decide +kernel))
section
variable {t : Tp} {n m x v p q : Nat} {r r2 : Nat → Nat → Bool} {row l : List Nat} {B L1 L2 S : Sto} {R : XV → Sto → Prop} {Q : D → Sto → Prop}
theorem w_named (hn : n ≤ 64) (hl : Nm n l) (hr : Rw n row) (k : ∀ tl : List Nat, tl.length = n → (∀ x, x < n → tl[l[x]!]! = l[row[x]!]!) → Q (.tup (tl.map dN)) S) : W (F__law_named [.lst (l.map dN), .lst (row.map dN)] S) R Q := by
  refine go__law_named ?_
  obtain ⟨p, hp⟩ : ∃ p, S.length = p := ⟨_, rfl⟩
  have hll := hl.len
  have hrl := hr.len
  (repeat decreasing_trivial_pre_omega)
  rw [hp]
  have e0 : List.replicate row.length (dN 0) = (List.replicate n 0).map dN := by rw [List.map_replicate, hrl]
  rw [e0]
  refine for_r (fun i env T => ∃ x3 tl, env = [some (.lst (l.map dN)), some (.lst (row.map dN)), some (.ptr p), x3] ∧ T = S ++ [.lst (tl.map dN)] ∧ tl.length = n ∧ ∀ x, x < i → tl[l[x]!]! = l[row[x]!]!) ⟨_, List.replicate n 0, rfl, rfl, by simp, fun x h => absurd h (by omega)⟩ ?_ ?_
  · rintro i hi env T ⟨x3, tl, rfl, rfl, htl, hv⟩
    have hin : i < n := by omega
    have h1 := hr.lt i hin
    have h2 := hl.lt hin
    (repeat decreasing_trivial_pre_omega)
    refine put_n (suf_at0 hp) (by rw [List.length_map, htl]; exact h2) ?_
    rw [suf_set0 hp]
    refine ⟨_, tl.set l[i]! l[row[i]!]!, rfl, by rw [List.map_set]; rfl, by simp [htl], fun x hx => ?_⟩
    have h3 := hl.lt (show x < n by omega)
    rw [getElem!_pos _ _ (by rw [List.length_set]; omega), List.getElem_set]
    by_cases e : x = i
    · subst e
      rw [if_pos rfl]
    · rw [if_neg (fun q => e (by rw [← hl.idx (show x < n by omega), ← hl.idx hin, q]))]
      have := hv x (by omega)
      rwa [getElem!_pos tl _ (by omega)] at this
  · rintro env T ⟨x3, tl, rfl, rfl, htl, hv⟩
    (repeat decreasing_trivial_pre_omega)
    refine b_tupP (suf_at0 hp) ?_
    exact fin_pL (cl_nats _) (k tl htl fun x hx => hv x (by omega))
/-- two side by side -/
def besR (n : Nat) (r r2 : Nat → Nat → Bool) (x y : Nat) : Bool := if x < n then decide (y < n) && r x y else decide (n ≤ y) && r2 (x - n) (y - n)
theorem bes_Up (h1 : Up n r) (h2 : Up m r2) : Up (n + m) (besR n r r2) := by
  have hi : ∀ x y, besR n r r2 x y = true ↔ (x < n ∧ y < n ∧ r x y = true) ∨ (n ≤ x ∧ n ≤ y ∧ r2 (x - n) (y - n) = true) := fun x y => by
    unfold besR
    by_cases hx : x < n
    · rw [if_pos hx, Bool.and_eq_true, decide_eq_true_eq]
      exact ⟨fun h => .inl ⟨hx, h⟩, fun h => h.elim (fun h => h.2) fun h => absurd hx (by omega)⟩
    · rw [if_neg hx, Bool.and_eq_true, decide_eq_true_eq]
      exact ⟨fun h => .inr ⟨by omega, h⟩, fun h => h.elim (fun h => absurd h.1 hx) fun h => h.2⟩
  refine ⟨fun x y h => ?_, fun x y z h1' h2' => ?_⟩
  · rcases (hi x y).mp h with ⟨_, _, h⟩ | ⟨_, _, h⟩
    · have := h1.lt x y h; omega
    · have := h2.lt _ _ h; omega
  · rw [hi] at h1' h2' ⊢
    rcases h1' with ⟨a1, a2, a3⟩ | ⟨a1, a2, a3⟩
    · rcases h2' with ⟨b1, b2, b3⟩ | ⟨b1, b2, b3⟩
      · exact .inl ⟨a1, b2, h1.tr _ _ _ a3 b3⟩
      · omega
    · rcases h2' with ⟨b1, b2, b3⟩ | ⟨b1, b2, b3⟩
      · omega
      · exact .inr ⟨a1, b2, h2.tr _ _ _ a3 b3⟩
theorem row_split {f : Nat → Bool} : rowB (n + m) f = rowB n f ++ rowB m fun y => f (n + y) := by
  unfold rowB
  rw [List.range_add, List.map_append, List.map_map]
  rfl
theorem rowB_ff : rowB n (fun _ => false) = List.replicate n (.bl false) := by unfold rowB; rw [List.map_const', List.length_range]
theorem bes_ll {y : Nat} (hx : x < n) (hy : y < n) : besR n r r2 x y = r x y := by unfold besR; rw [if_pos hx, decide_eq_true hy]; rfl
theorem bes_lh {y : Nat} (hx : x < n) : besR n r r2 x (n + y) = false := by unfold besR; rw [if_pos hx, decide_eq_false (by omega)]; rfl
theorem bes_hl {y : Nat} (hy : y < n) : besR n r r2 (n + x) y = false := by unfold besR; rw [if_neg (by omega), decide_eq_false (by omega)]; rfl
theorem bes_hh {y : Nat} : besR n r r2 (n + x) (n + y) = r2 x y := by unfold besR; rw [if_neg (by omega), decide_eq_true (by omega), show n + x - n = x by omega, show n + y - n = y by omega]; rfl
theorem bes_rows : lessD (n + m) (besR n r r2) = .lst (((List.range n).map fun x => D.lst (rowB n (r x) ++ List.replicate m (.bl false))) ++ (List.range m).map fun x => D.lst (List.replicate n (.bl false) ++ rowB m (r2 x))) := by
  unfold lessD
  rw [List.range_add, List.map_append, List.map_map]
  congr 2
  · refine List.map_congr_left fun x hx => ?_
    have hx := List.mem_range.mp hx
    rw [row_split, ← rowB_ff]
    unfold rowB
    refine congrArg D.lst (congr (congrArg _ (List.map_congr_left fun y hy => ?_)) (List.map_congr_left fun y hy => ?_))
    · show D.bl (besR n r r2 x y) = _
      rw [bes_ll hx (List.mem_range.mp hy)]
    · show D.bl (besR n r r2 x (n + y)) = _
      rw [bes_lh hx]
  · refine List.map_congr_left fun x hx => ?_
    have hx := List.mem_range.mp hx
    show D.lst (rowB (n + m) (besR n r r2 (n + x))) = _
    rw [row_split, ← rowB_ff]
    unfold rowB
    refine congrArg D.lst (congr (congrArg _ (List.map_congr_left fun y hy => ?_)) (List.map_congr_left fun y hy => ?_))
    · show D.bl (besR n r r2 (n + x) y) = _
      rw [bes_hl (List.mem_range.mp hy)]
    · show D.bl (besR n r r2 (n + x) (n + y)) = _
      rw [bes_hh]
theorem w_beside (hn : n ≤ 64) (hm : m ≤ 64) (k : Q (lessD (n + m) (besR n r r2)) S) : W (F__law_beside [lessD n r, lessD m r2] S) R Q := by
  refine go__law_beside ?_
  (repeat decreasing_trivial_pre_omega)
  refine ⟨_, rfl, ?_⟩
  refine lc_map (L := List.range n) (mk := fun x => D.lst (rowB n (r x))) (v := fun x => D.lst (rowB n (r x) ++ List.replicate m (.bl false))) (by simp [bigN]; omega) (fun x hx => ?_) ?_
  · dsimp only [wipeE, List.set]
    (repeat decreasing_trivial_pre_omega)
    refine o_addL (by simp [bigN, rowB]; omega) ?_
    exact ⟨rfl, rfl⟩
  refine w_ok (a := .lst ((List.range n).map fun x => D.lst (rowB n (r x) ++ List.replicate m (.bl false)))) (S := S) rfl ?_
  (repeat decreasing_trivial_pre_omega)
  refine ⟨_, rfl, ?_⟩
  refine lc_map (L := List.range m) (mk := fun x => D.lst (rowB m (r2 x))) (v := fun x => D.lst (List.replicate n (.bl false) ++ rowB m (r2 x))) (by simp [bigN]; omega) (fun x hx => ?_) ?_
  · dsimp only [wipeE, List.set]
    (repeat decreasing_trivial_pre_omega)
    refine o_addL (by simp [bigN, rowB]; omega) ?_
    exact ⟨rfl, rfl⟩
  refine w_ok (a := .lst ((List.range m).map fun x => D.lst (List.replicate n (.bl false) ++ rowB m (r2 x)))) (S := S) rfl ?_
  refine o_addL (by simp [bigN]; omega) ?_
  rw [← bes_rows]
  (repeat decreasing_trivial_pre_omega)
  exact fin_p0 cl_less k
end
end K58

namespace K58
open PySem L2 Z V K06
open PySem.Spec PyProof.Rows
variable [Tabs]
set_option synthInstance.maxHeartbeats 0
set_option synthInstance.maxSize 1000000
local macro_rules | `(tactic| decreasing_trivial_pre_omega) => `(tactic| first
  | (with_reducible refine E1.imp ?_)
  | ((with_reducible refine rng1_n ?_ ?_); omega)
  | ((with_reducible refine rng2_n ?_ ?_ ?_); omega; omega)
  | ((with_reducible refine o_subN ?_ ?_); omega)
  | ((with_reducible refine o_mulN ?_ ?_); omega)
  | ((with_reducible refine o_divN ?_ ?_ ?_); omega; omega)
  | ((with_reducible refine o_modN ?_ ?_); omega)
  | ((with_reducible refine o_shl1 ?_ ?_); omega)
  | ((with_reducible refine ix_rngL ?_ ?_); omega)
  | ((with_reducible refine ix_tab ?_ ?_); omega)
  | ((with_reducible refine ix_mapL ?_ ?_); omega)
  | ((with_reducible refine ix_mapT ?_ ?_); omega)
  | ((with_reducible refine o_modIN ?_ ?_); omega)
  | ((with_reducible refine o_divIN ?_ ?_ ?_); omega; omega)
  | ((with_reducible refine o_mulIN ?_ ?_); omega)
  | ((with_reducible refine o_mulNI ?_ ?_); omega)
  | ((with_reducible refine o_mulNN ?_ ?_); omega)
  | ((with_reducible refine o_mul1 ?_ ?_); omega)
  | ((with_reducible refine o_mulC ?_ ?_); omega)
  | ((with_reducible refine br_dt ?_ ?_); omega)
  | ((with_reducible refine br_df ?_ ?_); omega)
  | ((with_reducible refine o_addT ?_ ?_); (focus (simp [bigN]; done)))
  | ((with_reducible refine o_addL ?_ ?_); (focus (simp [bigN]; done)))
  | ((with_reducible refine br_dt ?_ ?_); exact rfl)
  | ((with_reducible refine br_df ?_ ?_); exact Bool.false_ne_true)
  | ((with_reducible refine br_df ?_ ?_); exact (fun h => Bool.false_ne_true h.symm))
  | ((with_reducible refine w_xis_t ?_ ?_); decide +kernel)
  | ((with_reducible refine w_xis_f ?_ ?_); decide +kernel)
  | ((with_reducible refine w_xf1 ?_ ?_); decide +kernel)
  | ((with_reducible refine tryq_t ?_ ?_ ?_); (focus (simp; done)); decide +kernel; dsimp only [List.set])
  | ((with_reducible refine tryq_f ?_ ?_ ?_); (focus (simp; done)); decide +kernel))
/-! ### sums -/
def sI {α : Type} (l : List α) (f : α → Int) : Int := (l.map f).sum
section
variable {α : Type} {l l' : List α} {f g : α → Int}
theorem sI_nil : sI [] f = 0 := rfl
theorem sI_cons {x : α} : sI (x :: l) f = f x + sI l f := rfl
theorem sI_cg (h : ∀ x ∈ l, f x = g x) : sI l f = sI l g := by unfold sI; rw [List.map_congr_left h]
theorem sI_app : sI (l ++ l') f = sI l f + sI l' f := by unfold sI; rw [List.map_append, List.sum_append]
theorem sI_perm (h : l.Perm l') : sI l f = sI l' f := by
  induction h with
  | nil => rfl
  | cons x _ ih => rw [sI_cons, sI_cons, ih]
  | swap x y l => rw [sI_cons, sI_cons, sI_cons, sI_cons]; omega
  | trans _ _ h1 h2 => exact h1.trans h2
theorem sI_zero (h : ∀ x ∈ l, f x = 0) : sI l f = 0 := by
  induction l with
  | nil => rfl
  | cons x l ih => rw [sI_cons, h x List.mem_cons_self, ih fun y hy => h y (List.mem_cons_of_mem _ hy)]; rfl
theorem sI_add : sI l (fun x => f x + g x) = sI l f + sI l g := by
  induction l with
  | nil => rfl
  | cons x l ih => rw [sI_cons, sI_cons, sI_cons, ih]; omega
theorem sI_sub : sI l (fun x => f x - g x) = sI l f - sI l g := by
  induction l with
  | nil => rfl
  | cons x l ih => rw [sI_cons, sI_cons, sI_cons, ih]; omega
theorem sI_filter {p : α → Bool} : sI (l.filter p) f = sI l fun x => if p x = true then f x else 0 := by
  induction l with
  | nil => rfl
  | cons x l ih =>
    rw [sI_cons, List.filter_cons]
    cases h : p x with
    | true => rw [if_pos rfl, if_pos rfl, sI_cons, ih]
    | false => rw [if_neg Bool.false_ne_true, if_neg Bool.false_ne_true, ih, Int.zero_add]
theorem sI_map {β : Type} {w : β → α} {k : List β} : sI (k.map w) f = sI k fun x => f (w x) := by unfold sI; rw [List.map_map]; rfl
theorem sI_at {l : List Nat} {f : Nat → Int} : sI l f = sI (List.range l.length) fun i => f l[i]! := by
  unfold sI
  congr 1
  refine List.ext_getElem (by simp) fun i g1 g2 => ?_
  have hi : i < l.length := by simpa using g1
  rw [List.getElem_map, List.getElem_map, List.getElem_range, getElem!_pos l i hi]
/-- with signs that change -/
def alt : List Int → Int
  | [] => 0
  | x :: l => x - alt l
theorem alt_zero : ∀ l : List Int, alt (l ++ [0]) = alt l
  | [] => rfl
  | x :: l => by rw [List.cons_append, alt, alt, alt_zero l]
theorem alt_evens : ∀ l : List Int, (HT.evens l).sum - (HT.evens (l.drop 1)).sum = alt l
  | [] => rfl
  | x :: l => by
    have e1 : HT.evens (x :: l) = x :: HT.evens (l.drop 1) := by cases l <;> rfl
    rw [alt, ← alt_evens l, e1, List.sum_cons]
    show x + (HT.evens (l.drop 1)).sum - (HT.evens l).sum = _
    omega
theorem alt_sI {k : Nat} {F : Nat → α → Int} : alt ((List.range k).map fun i => sI l (F i)) = sI l fun x => alt ((List.range k).map fun i => F i x) := by
  induction k generalizing F with
  | zero => exact (sI_zero fun _ _ => rfl).symm
  | succ k ih =>
    rw [List.range_succ_eq_map, List.map_cons, List.map_map, alt]
    have := ih (F := fun i => F (i + 1))
    have e : ((fun i => sI l (F i)) ∘ Nat.succ) = fun i => sI l (F (i + 1)) := rfl
    rw [e, this, ← sI_sub]
    refine sI_cg fun x _ => ?_
    rw [List.map_cons, List.map_map, alt]
    rfl
theorem sI_neg : sI l (fun x => - f x) = - sI l f := by
  induction l with
  | nil => rfl
  | cons x l ih => rw [sI_cons, sI_cons, ih]; omega
end
/-! ### how many chains end at a point -/
section
variable {N K : Nat} {q : Nat → Nat → Bool}
def en (N : Nat) (q : Nat → Nat → Bool) : Nat → Nat → Nat
  | 0, _ => 1
  | k + 1, x => (((List.range N).filter fun y => q y x).map (en N q k)).sum
theorem sum_cast : ∀ l : List Nat, ((l.sum : Nat) : Int) = (l.map fun x : Nat => (x : Int)).sum
  | [] => rfl
  | x :: l => by rw [List.map_cons, List.sum_cons, List.sum_cons, ← sum_cast l]; omega
theorem en_s {k x : Nat} : ((en N q (k + 1) x : Nat) : Int) = sI ((List.range N).filter fun y => q y x) fun y => (en N q k y : Int) := by
  rw [en, sum_cast, List.map_map]
  rfl
theorem sum_zero : ∀ {l : List Nat}, l.sum = 0 → ∀ x ∈ l, x = 0
  | [], _, _, h => by cases h
  | y :: l, h, x, hx => by
    rw [List.sum_cons] at h
    rcases (List.mem_cons.mp hx) with rfl | hx
    · omega
    · exact sum_zero (by omega) x hx
theorem zero_sum : ∀ {l : List Nat}, (∀ x ∈ l, x = 0) → l.sum = 0
  | [], _ => rfl
  | y :: l, h => by rw [List.sum_cons, h y List.mem_cons_self, zero_sum fun x hx => h x (List.mem_cons_of_mem _ hx)]
theorem en_low {rk : Nat → Nat} (h : ∀ x y, x < N → y < N → q x y = true → rk x < rk y) : ∀ k x, x < N → rk x < k → en N q k x = 0
  | 0, _, _, h0 => by omega
  | k + 1, x, hx, h0 => zero_sum fun z hz => by
    obtain ⟨y, hy, rfl⟩ := List.mem_map.mp hz
    obtain ⟨h1, h2⟩ := List.mem_filter.mp hy
    have h1 := List.mem_range.mp h1
    have := h y x h1 hx h2
    exact en_low h k y h1 (by omega)
/-- the signed number of the chains that end at a point -/
def gK (N : Nat) (q : Nat → Nat → Bool) (K x : Nat) : Int := alt ((List.range K).map fun k => (en N q k x : Int))
theorem gK_rec (hK : ∀ x, x < N → en N q K x = 0) {x : Nat} (hx : x < N) : gK N q K x = 1 - sI (List.range N) fun y => if q y x = true then gK N q K y else 0 := by
  cases K with
  | zero => exact absurd (hK x hx) Nat.one_ne_zero
  | succ K =>
    have h1 : gK N q (K + 1) x = 1 - sI ((List.range N).filter fun y => q y x) fun y => gK N q K y := by
      unfold gK
      rw [List.range_succ_eq_map, List.map_cons, List.map_map, alt, ← alt_sI]
      congr 2
      exact congrArg (fun f => List.map f (List.range K)) (funext fun k => en_s)
    rw [h1, ← sI_filter]
    congr 1
    refine sI_cg fun y hy => ?_
    have h0 : en N q K y = 0 := sum_zero (hK x hx) _ (List.mem_map_of_mem hy)
    unfold gK
    rw [List.range_succ, List.map_append]
    show _ = alt (_ ++ [((en N q K y : Nat) : Int)])
    rw [h0]
    exact (alt_zero _).symm
theorem alt_counts : alt ((List.range K).map fun k => ((((List.range N).map (en N q k)).sum : Nat) : Int)) = sI (List.range N) (gK N q K) := by
  have e : (fun k => ((((List.range N).map (en N q k)).sum : Nat) : Int)) = fun k => sI (List.range N) fun x => (en N q k x : Int) := funext fun k => by
    rw [sum_cast, List.map_map]
    rfl
  rw [e, alt_sI]
  rfl
end
end K58

namespace K58
open PySem L2 Z V K06
open PySem.Spec PyProof.Rows
variable [Tabs]
set_option synthInstance.maxHeartbeats 0
set_option synthInstance.maxSize 1000000
local macro_rules | `(tactic| decreasing_trivial_pre_omega) => `(tactic| first
  | (with_reducible refine E1.imp ?_)
  | ((with_reducible refine rng1_n ?_ ?_); omega)
  | ((with_reducible refine rng2_n ?_ ?_ ?_); omega; omega)
  | ((with_reducible refine o_subN ?_ ?_); omega)
  | ((with_reducible refine o_mulN ?_ ?_); omega)
  | ((with_reducible refine o_divN ?_ ?_ ?_); omega; omega)
  | ((with_reducible refine o_modN ?_ ?_); omega)
  | ((with_reducible refine o_shl1 ?_ ?_); omega)
  | ((with_reducible refine ix_rngL ?_ ?_); omega)
  | ((with_reducible refine ix_tab ?_ ?_); omega)
  | ((with_reducible refine ix_mapL ?_ ?_); omega)
  | ((with_reducible refine ix_mapT ?_ ?_); omega)
  | ((with_reducible refine o_modIN ?_ ?_); omega)
  | ((with_reducible refine o_divIN ?_ ?_ ?_); omega; omega)
  | ((with_reducible refine o_mulIN ?_ ?_); omega)
  | ((with_reducible refine o_mulNI ?_ ?_); omega)
  | ((with_reducible refine o_mulNN ?_ ?_); omega)
  | ((with_reducible refine o_mul1 ?_ ?_); omega)
  | ((with_reducible refine o_mulC ?_ ?_); omega)
  | ((with_reducible refine br_dt ?_ ?_); omega)
  | ((with_reducible refine br_df ?_ ?_); omega)
  | ((with_reducible refine o_addT ?_ ?_); (focus (simp [bigN]; done)))
  | ((with_reducible refine o_addL ?_ ?_); (focus (simp [bigN]; done)))
  | ((with_reducible refine br_dt ?_ ?_); exact rfl)
  | ((with_reducible refine br_df ?_ ?_); exact Bool.false_ne_true)
  | ((with_reducible refine br_df ?_ ?_); exact (fun h => Bool.false_ne_true h.symm))
  | ((with_reducible refine w_xis_t ?_ ?_); decide +kernel)
  | ((with_reducible refine w_xis_f ?_ ?_); decide +kernel)
  | ((with_reducible refine w_xf1 ?_ ?_); decide +kernel)
  | ((with_reducible refine tryq_t ?_ ?_ ?_); (focus (simp; done)); decide +kernel; dsimp only [List.set])
  | ((with_reducible refine tryq_f ?_ ?_ ?_); (focus (simp; done)); decide +kernel))
section
variable {n N K : Nat} {q r : Nat → Nat → Bool} {row l : List Nat} {S : Sto} {R : XV → Sto → Prop} {Q : D → Sto → Prop}
theorem b_sumN {l : List Nat} (k : Q (dN l.sum) S) : W (dSum [.lst (l.map dN)] S) R Q := by
  refine w_ok (a := dN l.sum) (S := S) ?_ k
  unfold dSum
  simp only [seqOf, Option.bind_some, intsOf_N]
  rw [← sum_cast]
  rfl
theorem any_nz : ∀ l : List Nat, ((l.map fun x : Nat => (x : Int)).any fun i => i != 0) = l.any fun x => decide (x ≠ 0)
  | [] => rfl
  | x :: l => by
    rw [List.map_cons, List.any_cons, List.any_cons, any_nz l]
    congr 1
    by_cases h : x = 0
    · subst h; rfl
    · rw [decide_eq_true h, bne_iff_ne.mpr (by omega)]
theorem b_anyN {l : List Nat} (k : Q (.bl (l.any fun x => decide (x ≠ 0))) S) : W (dAnyI [.lst (l.map dN)] S) R Q := by
  refine b_anyI (ns := l.map fun x : Nat => (x : Int)) (by simp only [seqOf, Option.bind_some, intsOf_N]) ?_
  rw [any_nz]
  exact k
theorem down_bits (hN : N ≤ 64) {x : Nat} (hx : x < N) : bitsN 64 (upF ((canon N q).map fun p => (p.2, p.1)) (fun _ => 0) x) = (List.range N).filter fun y => q y x := by
  refine asc_ext (bitsN_asc _ _) (List.Pairwise.filter _ List.pairwise_lt_range) fun y => ?_
  rw [mem_bitsN, upF_bit, Nat.zero_testBit, Bool.false_or, decide_eq_true_eq, List.mem_filter, List.mem_range, List.mem_map]
  constructor
  · rintro ⟨_, ⟨a, b⟩, h, e⟩
    obtain ⟨h1, h2, h3⟩ := mem_canon.mp h
    cases e
    exact ⟨h1, h3⟩
  · rintro ⟨h1, h2⟩
    exact ⟨by omega, (y, x), mem_canon.mpr ⟨h1, hx, h2⟩, rfl⟩
theorem down_lt (hN : N ≤ 64) (x : Nat) : upF ((canon N q).map fun p => (p.2, p.1)) (fun _ => 0) x < 2 ^ 64 := by
  refine upF_lt (fun p hp => ?_) x
  obtain ⟨⟨a, b⟩, h, rfl⟩ := List.mem_map.mp hp
  have := (mem_canon.mp h).1
  show a < 64
  omega
/-- along which every pair goes up -/
structure Rk (N : Nat) (q : Nat → Nat → Bool) (rk : Nat → Nat) : Prop where
  up : ∀ x y, x < N → y < N → q x y = true → rk x < rk y
  lt : ∀ x, x < N → rk x < 64
theorem w_counts {rk : Nat → Nat} (hN : N ≤ 64) (hq : Rk N q rk) (k : ∀ K, (∀ x, x < N → en N q K x = 0) → Q (.tup (((List.range K).map fun k => ((List.range N).map (en N q k)).sum).map dN)) S) : W (F_chain_counts [ordD N (canon N q)] S) R Q := by
  refine go_chain_counts ?_
  obtain ⟨p, hp⟩ : ∃ p, S.length = p := ⟨_, rfl⟩
  (repeat decreasing_trivial_pre_omega)
  refine w_ok (eval_below hN (fun p hp => ?_) S) ?_
  · have := mem_canon.mp (show (p.1, p.2) ∈ canon N q from hp)
    exact ⟨by omega, this.2.1⟩
  (repeat decreasing_trivial_pre_omega)
  refine lc_map (L := List.range N) (mk := fun x => D.int ((upF ((canon N q).map fun p => (p.2, p.1)) (fun _ => 0) x : Nat) : Int)) (v := fun x => D.lst (((List.range N).filter fun y => q y x).map dN)) (by simp [bigN]; omega) (fun x hx => ?_) ?_
  · have hx := List.mem_range.mp hx
    dsimp only [wipeE, List.set]
    (repeat decreasing_trivial_pre_omega)
    refine w_ok (eval_bits (down_lt hN x) S) ?_
    rw [down_bits hN hx]
    exact ⟨rfl, rfl⟩
  refine w_ok (a := .lst ((List.range N).map fun x => D.lst (((List.range N).filter fun y => q y x).map dN))) (S := S) rfl ?_
  (repeat decreasing_trivial_pre_omega)
  rw [hp]
  have e0 : List.replicate N (dN 1) = ((List.range N).map (en N q 0)).map dN := by
    rw [List.map_map]
    show _ = (List.range N).map fun _ => dN 1
    rw [List.map_const', List.length_range]
  rw [e0]
  refine while_n (k := 64) (fun k env T => ∃ i, i ≤ 64 ∧ k = 64 - i ∧ env = [some (ordD N (canon N q)), some (.lst ((List.range N).map fun x => D.lst (((List.range N).filter fun y => q y x).map dN))), some (.ptr p), some (.lst (((List.range N).map (en N q i)).map dN)), none, none, none] ∧ T = S ++ [.lst (((List.range i).map fun k => ((List.range N).map (en N q k)).sum).map dN)]) ⟨0, by omega, rfl, rfl, rfl⟩ (by decide) ?_
  rintro k' env T ⟨i, hi, rfl, rfl, rfl⟩
  (repeat decreasing_trivial_pre_omega)
  refine b_anyN ?_
  cases hany : ((List.range N).map (en N q i)).any fun x => decide (x ≠ 0) with
  | true =>
    refine br_t ?_
    have hi2 : i < 64 := by
      obtain ⟨z, hz, hz2⟩ := List.any_eq_true.mp hany
      obtain ⟨x, hx, rfl⟩ := List.mem_map.mp hz
      have hx := List.mem_range.mp hx
      refine Nat.lt_of_not_le fun h => of_decide_eq_true hz2 ?_
      have := hq.lt x hx
      exact en_low hq.up i x hx (by omega)
    (repeat decreasing_trivial_pre_omega)
    refine isPtrL_of (xs := ((List.range i).map fun k => ((List.range N).map (en N q k)).sum).map dN) (suf_at0 hp) ?_
    (repeat decreasing_trivial_pre_omega)
    refine b_sumN ?_
    (repeat decreasing_trivial_pre_omega)
    refine b_app (xs := ((List.range i).map fun k => ((List.range N).map (en N q k)).sum).map dN) (suf_at0 hp) (by simp [bigN]; omega) ?_
    rw [suf_set0 hp]
    (repeat decreasing_trivial_pre_omega)
    refine lc_map (L := List.range N) (mk := fun x => D.lst (((List.range N).filter fun y => q y x).map dN)) (v := fun x => dN (en N q (i + 1) x)) (by simp [bigN]; omega) (fun x hx => ?_) ?_
    · have hx := List.mem_range.mp hx
      have hfl : ((List.range N).filter fun y => q y x).length ≤ N := Nat.le_trans (List.length_filter_le _ _) (by simp)
      dsimp only [wipeE, List.set]
      (repeat decreasing_trivial_pre_omega)
      refine lc_map (L := (List.range N).filter fun y => q y x) (mk := dN) (v := fun y => dN (en N q i y)) (by simp only [bigN]; omega) (fun y hy => ?_) ?_
      · have hy := List.mem_range.mp (List.mem_filter.mp hy).1
        dsimp only [wipeE, List.set]
        (repeat decreasing_trivial_pre_omega)
        refine ix_gen (xs := ((List.range N).map (en N q i)).map dN) rfl (d := dN (en N q i y)) (by rw [List.getElem?_map, List.getElem?_map, List.getElem?_range hy]; rfl) ?_
        exact ⟨rfl, rfl⟩
      rw [show (((List.range N).filter fun y => q y x).map fun y => dN (en N q i y)) = (((List.range N).filter fun y => q y x).map (en N q i)).map dN by rw [List.map_map]; rfl]
      refine w_ok (a := .lst ((((List.range N).filter fun y => q y x).map (en N q i)).map dN)) rfl ?_
      (repeat decreasing_trivial_pre_omega)
      refine b_sumN ?_
      exact ⟨rfl, rfl⟩
    rw [show ((List.range N).map fun x => dN (en N q (i + 1) x)) = ((List.range N).map (en N q (i + 1))).map dN by rw [List.map_map]; rfl]
    refine w_ok (a := .lst (((List.range N).map (en N q (i + 1))).map dN)) rfl ?_
    (repeat decreasing_trivial_pre_omega)
    refine ⟨63 - i, by omega, i + 1, by omega, by omega, rfl, ?_⟩
    rw [List.range_succ, List.map_append, List.map_append]
    rfl
  | false =>
    refine br_f ?_
    (repeat decreasing_trivial_pre_omega)
    refine b_tupP (suf_at0 hp) ?_
    refine fin_pL (cl_nats _) (k i fun x hx => ?_)
    have := List.any_eq_false.mp hany (en N q i x) (List.mem_map_of_mem (List.mem_range.mpr hx))
    exact Decidable.of_not_not fun h => this (decide_eq_true h)
theorem w_euler {rk : Nat → Nat} (hN : N ≤ 64) (hq : Rk N q rk) (k : ∀ G : Nat → Int, (∀ x, x < N → G x = 1 - sI (List.range N) fun y => if q y x = true then G y else 0) → Q (.int (sI (List.range N) G)) S) : W (F_euler [ordD N (canon N q)] S) R Q := by
  refine go_euler ?_
  (repeat decreasing_trivial_pre_omega)
  refine w_counts hN hq fun K hK => ?_
  have k2 := k (gK N q K) fun x hx => gK_rec hK hx
  rw [← alt_counts, ← alt_evens] at k2
  obtain ⟨cs, hcs⟩ : ∃ cs, (List.range K).map (fun k => ((List.range N).map (en N q k)).sum) = cs := ⟨_, rfl⟩
  have e : (List.range K).map (fun k => ((((List.range N).map (en N q k)).sum : Nat) : Int)) = cs.map fun x : Nat => (x : Int) := by rw [← hcs, List.map_map]; rfl
  rw [e] at k2
  rw [hcs]
  have ev : ∀ l : List Nat, HT.evens (l.map dN) = (HT.evens l).map dN := HT.evens_map dN
  have sm : ∀ {l : List Nat} {S : Sto} {R : XV → Sto → Prop} {Q : D → Sto → Prop}, Q (.int ((l.map fun x : Nat => (x : Int)).sum)) S → W (dSumT [.tup (l.map dN)] S) R Q := fun k => b_sumT (intsOf_N _) k
  (repeat decreasing_trivial_pre_omega)
  refine ⟨_, rfl, ?_⟩
  rw [List.drop_zero, ev]
  (repeat decreasing_trivial_pre_omega)
  refine sm ?_
  (repeat decreasing_trivial_pre_omega)
  refine ⟨_, rfl, ?_⟩
  rw [← List.map_drop, ev]
  (repeat decreasing_trivial_pre_omega)
  refine sm ?_
  rw [← HT.evens_map, ← HT.evens_map, List.map_drop]
  (repeat decreasing_trivial_pre_omega)
  exact fin_p0 trivial k2
theorem w_fixed (hn : n ≤ 64) (hl : row.length = n) (k : Q (.tup (((List.range n).filter fun x => decide (row[x]! = x)).map dN)) S) : W (F_fixed_points [ordD n (canon n q), .tup (row.map dN)] S) R Q := by
  refine go_fixed_points ?_
  (repeat decreasing_trivial_pre_omega)
  refine tg_pure (L := List.range n) (mk := dN) (p := fun x => decide (row[x]! = x)) (v := dN) (by simp [bigN]; omega) (fun x hx => ?_) ?_
  · have hx := List.mem_range.mp hx
    dsimp only [wipeE, List.set]
    (repeat decreasing_trivial_pre_omega)
    exact ⟨rfl, rfl, fun _ => by (repeat decreasing_trivial_pre_omega); exact ⟨rfl, rfl⟩⟩
  exact fin_p0 (cl_nats _) k
theorem pt_at {i : Nat} : ptAt l i = l[i]! := by
  unfold ptAt
  rw [List.getD_eq_getElem?_getD, List.getElem!_eq_getElem?_getD]
  rfl
theorem w_lefs {rk : Nat → Nat} (hn : n ≤ 64) (hl : row.length = n) (hq : Rk n q rk) (k : ∀ G : Nat → Int, (∀ i, i < ((List.range n).filter fun x => decide (row[x]! = x)).length → G i = 1 - sI (List.range ((List.range n).filter fun x => decide (row[x]! = x)).length) fun j => if q ((List.range n).filter fun x => decide (row[x]! = x))[j]! ((List.range n).filter fun x => decide (row[x]! = x))[i]! = true then G j else 0) → Q (.int (sI (List.range ((List.range n).filter fun x => decide (row[x]! = x)).length) G)) S) : W (F_lefschetz [ordD n (canon n q), .tup (row.map dN)] S) R Q := by
  refine go_lefschetz ?_
  obtain ⟨fs, hfs⟩ : ∃ fs, ((List.range n).filter fun x => decide (row[x]! = x)) = fs := ⟨_, rfl⟩
  have hlt : ∀ x ∈ fs, x < n := fun x hx => by rw [← hfs] at hx; exact List.mem_range.mp (List.mem_filter.mp hx).1
  have hlen : fs.length ≤ 64 := by rw [← hfs]; exact Nat.le_trans (List.length_filter_le _ _) (by simp; omega)
  rw [hfs] at k
  (repeat decreasing_trivial_pre_omega)
  refine w_fixed hn hl ?_
  rw [hfs]
  (repeat decreasing_trivial_pre_omega)
  refine w_ok (ind_canon hn q hlt hlen S) ?_
  (repeat decreasing_trivial_pre_omega)
  refine w_euler (rk := fun i => rk (ptAt fs i)) hlen ⟨fun i j hi hj h => hq.up _ _ (hlt _ (ptAt_mem hi)) (hlt _ (ptAt_mem hj)) h, fun i hi => hq.lt _ (hlt _ (ptAt_mem hi))⟩ fun G hG => ?_
  (repeat decreasing_trivial_pre_omega)
  refine fin_p0 trivial (k G fun i hi => ?_)
  rw [hG i hi]
  simp only [pt_at]
end
end K58

namespace K58
open PySem L2 Z V K06
open PySem.Spec PyProof.Rows
variable [Tabs]
set_option synthInstance.maxHeartbeats 0
set_option synthInstance.maxSize 1000000
local macro_rules | `(tactic| decreasing_trivial_pre_omega) => `(tactic| first
  | (with_reducible refine E1.imp ?_)
  | ((with_reducible refine rng1_n ?_ ?_); omega)
  | ((with_reducible refine rng2_n ?_ ?_ ?_); omega; omega)
  | ((with_reducible refine o_subN ?_ ?_); omega)
  | ((with_reducible refine o_mulN ?_ ?_); omega)
  | ((with_reducible refine o_divN ?_ ?_ ?_); omega; omega)
  | ((with_reducible refine o_modN ?_ ?_); omega)
  | ((with_reducible refine o_shl1 ?_ ?_); omega)
  | ((with_reducible refine ix_rngL ?_ ?_); omega)
  | ((with_reducible refine ix_tab ?_ ?_); omega)
  | ((with_reducible refine ix_mapL ?_ ?_); omega)
  | ((with_reducible refine ix_mapT ?_ ?_); omega)
  | ((with_reducible refine o_modIN ?_ ?_); omega)
  | ((with_reducible refine o_divIN ?_ ?_ ?_); omega; omega)
  | ((with_reducible refine o_mulIN ?_ ?_); omega)
  | ((with_reducible refine o_mulNI ?_ ?_); omega)
  | ((with_reducible refine o_mulNN ?_ ?_); omega)
  | ((with_reducible refine o_mul1 ?_ ?_); omega)
  | ((with_reducible refine o_mulC ?_ ?_); omega)
  | ((with_reducible refine br_dt ?_ ?_); omega)
  | ((with_reducible refine br_df ?_ ?_); omega)
  | ((with_reducible refine o_addT ?_ ?_); (focus (simp [bigN]; done)))
  | ((with_reducible refine o_addL ?_ ?_); (focus (simp [bigN]; done)))
  | ((with_reducible refine br_dt ?_ ?_); exact rfl)
  | ((with_reducible refine br_df ?_ ?_); exact Bool.false_ne_true)
  | ((with_reducible refine br_df ?_ ?_); exact (fun h => Bool.false_ne_true h.symm))
  | ((with_reducible refine w_xis_t ?_ ?_); decide +kernel)
  | ((with_reducible refine w_xis_f ?_ ?_); decide +kernel)
  | ((with_reducible refine w_xf1 ?_ ?_); decide +kernel)
  | ((with_reducible refine tryq_t ?_ ?_ ?_); (focus (simp; done)); decide +kernel; dsimp only [List.set])
  | ((with_reducible refine tryq_f ?_ ?_ ?_); (focus (simp; done)); decide +kernel))
section
variable {n : Nat} {r : Nat → Nat → Bool} {row l : List Nat} {F : Nat → Bool} {h h' : Nat → Int}
/-- a number for each point that is fixed: 1 less the numbers below it -/
def Wt (n : Nat) (r : Nat → Nat → Bool) (F : Nat → Bool) (h : Nat → Int) : Prop := ∀ x, x < n → h x = if F x = true then 1 - sI (List.range n) (fun y => if r y x = true then h y else 0) else 0
/-! ### the chains that the law lists -/
def vC (row : List Nat) (p : Nat → Bool) (c : List Nat) : Int := match c.getLast? with
  | none => 0
  | some z => if p z = true then wC row c else 0
def uC (row : List Nat) (c : List Nat) : Int := match c.getLast? with
  | none => wC row c
  | some _ => 0
theorem wC_add {c : List Nat} {x : Nat} : wC row (c ++ [x]) = if row[x]! = x then - wC row c else 0 := by
  unfold wC
  have e : (c ++ [x]).map (fun x => row[x]!) = c ++ [x] ↔ c.map (fun x => row[x]!) = c ∧ row[x]! = x := by
    rw [List.map_append]
    constructor
    · intro q
      obtain ⟨q1, q2⟩ := List.append_inj q (by simp)
      exact ⟨q1, (List.cons.inj q2).1⟩
    · rintro ⟨q1, q2⟩
      rw [q1]
      show c ++ [row[x]!] = _
      rw [q2]
  by_cases hx : row[x]! = x
  · rw [if_pos hx]
    by_cases hc : c.map (fun x => row[x]!) = c
    · rw [if_pos (e.mpr ⟨hc, hx⟩), if_pos hc, List.length_append, List.length_singleton]
      omega
    · rw [if_neg fun q => hc (e.mp q).1, if_neg hc]
      rfl
  · rw [if_neg hx, if_neg fun q => hx (e.mp q).2]
theorem vC_add {c : List Nat} {x : Nat} {p : Nat → Bool} : vC row p (c ++ [x]) = if p x = true then wC row (c ++ [x]) else 0 := by
  unfold vC
  rw [List.getLast?_concat]
theorem one_step {c : List Nat} {x : Nat} {p : Nat → Bool} : (if okC r x c = true then vC row p (c ++ [x]) else 0) = if p x = true then (if row[x]! = x then - (uC row c + vC row (fun z => r z x) c) else 0) else 0 := by
  rw [vC_add, wC_add]
  rcases List.eq_nil_or_concat c with rfl | ⟨c', z, rfl⟩
  · show (if true = true then _ else _) = _
    rw [if_pos rfl]
    show _ = if p x = true then (if row[x]! = x then - (wC row [] + 0) else 0) else 0
    rw [Int.add_zero]
  · rw [List.concat_eq_append]
    unfold okC uC vC
    rw [List.getLast?_concat]
    simp only []
    rw [Int.zero_add]
    by_cases h1 : r z x = true <;> by_cases h2 : p x = true <;> simp [h1, h2]
theorem sum_empty : ∀ pre : List Nat, sI (chs r pre) (uC row) = -1 := by
  suffices q : ∀ (pre : List Nat) (L : List (List Nat)), sI L (uC row) = -1 → sI (pre.foldl (stepC r) L) (uC row) = -1 by
    intro pre
    exact q pre [[]] rfl
  intro pre
  induction pre with
  | nil => exact fun L q => q
  | cons x pre ih =>
    intro L q
    refine ih _ ?_
    unfold stepC
    rw [sI_app, q, sI_map, sI_zero fun c _ => by unfold uC; rw [List.getLast?_concat]]
    rfl
theorem sum_last (hU : Up n r) (hF : ∀ x, x < n → F x = decide (row[x]! = x)) (hW : Wt n r F h) {ls : List Nat} (hR : Rkd n r ls) : ∀ (k : Nat), k ≤ ls.length → ∀ p : Nat → Bool, sI (chs r (ls.take k)) (vC row p) = sI (ls.take k) fun y => if p y = true then h y else 0
  | 0, _, p => rfl
  | k + 1, hk, p => by
    have hk2 : k < ls.length := by omega
    have ih := sum_last hU hF hW hR k (by omega)
    obtain ⟨x, hx⟩ : ∃ x, ls[k] = x := ⟨_, rfl⟩
    have hxn : x < n := List.mem_range.mp (hR.per.mem_iff.mp (by rw [← hx]; exact List.getElem_mem hk2))
    rw [take_one hk2, hx, chs_add, sI_app]
    unfold stepC
    rw [sI_app, ih p, sI_map, sI_filter]
    congr 1
    have e : (fun c => if okC r x c = true then vC row p (c ++ [x]) else 0) = fun c => if p x = true then (if row[x]! = x then - (uC row c + vC row (fun z => r z x) c) else 0) else 0 := funext fun c => one_step
    rw [e]
    show _ = (if p x = true then h x else 0) + 0
    rw [Int.add_zero]
    by_cases hp : p x = true
    · have hs : sI (List.range n) (fun y => if r y x = true then h y else 0) = sI (ls.take k) fun y => if r y x = true then h y else 0 := by
        have hord := hR.ord
        have e1 : ls = ls.take k ++ x :: ls.drop (k + 1) := by
          rw [← hx, ← List.drop_eq_getElem_cons hk2, List.take_append_drop]
        rw [← sI_perm hR.per]
        have e2 : sI ls (fun y => if r y x = true then h y else 0) = sI (ls.take k ++ x :: ls.drop (k + 1)) (fun y => if r y x = true then h y else 0) := by rw [← e1]
        rw [e1] at hord
        have hord2 := List.pairwise_cons.mp (List.pairwise_append.mp hord).2.1
        rw [e2, sI_app, sI_cons, sI_zero (l := ls.drop (k + 1)) fun y hy => by rw [hord2.1 y hy]; rfl]
        have hxx : ¬ (r x x = true) := fun q => by have := hU.lt x x q; omega
        rw [if_neg hxx]
        omega
      rw [hW x hxn, hF x hxn]
      simp only [hp, if_true]
      by_cases hf : row[x]! = x
      · simp only [hf, if_true, decide_true]
        rw [sI_neg, sI_add, sum_empty, ih, hs]
        omega
      · simp only [hf, if_false, decide_false]
        rw [sI_zero fun _ _ => rfl]
        simp
    · simp only [hp]
      rw [sI_zero fun c _ => by simp]
      simp
theorem wt_total (hU : Up n r) (hF : ∀ x, x < n → F x = decide (row[x]! = x)) (hW : Wt n r F h) {ls : List Nat} (hR : Rkd n r ls) : (((chs r ls).filter fun c => decide (0 < c.length)).map (wC row)).sum = sI (List.range n) h := by
  have h1 := sum_last hU hF hW hR ls.length (Nat.le_refl _) fun _ => true
  rw [List.take_length] at h1
  show sI ((chs r ls).filter fun c => decide (0 < c.length)) (wC row) = _
  rw [sI_filter, ← sI_perm hR.per]
  have e : (fun c : List Nat => if decide (0 < c.length) = true then wC row c else 0) = vC row fun _ => true := funext fun c => by
    rcases List.eq_nil_or_concat c with rfl | ⟨c', z, rfl⟩
    · rfl
    · rw [List.concat_eq_append]
      unfold vC
      rw [List.getLast?_concat]
      simp
  rw [e, h1]
  exact sI_cg fun y _ => if_pos rfl
/-- from the points that are fixed, told anew, to the points as they were -/
theorem wt_link {fs tl : List Nat} {G : Nat → Int} (hl : Nm n l) (hfs : fs = (List.range n).filter fun a => decide (tl[a]! = a)) (hF : ∀ x, x < n → (F x = true ↔ tl[l[x]!]! = l[x]!)) (hG : ∀ i, i < fs.length → G i = 1 - sI (List.range fs.length) fun j => if nmR n l r fs[j]! fs[i]! = true then G j else 0) :
    ∃ h, Wt n r F h ∧ sI (List.range fs.length) G = sI (List.range n) h := by
  have hnd : fs.Nodup := by rw [hfs]; exact List.nodup_range.filter _
  have hmem : ∀ a, a ∈ fs ↔ a < n ∧ tl[a]! = a := fun a => by rw [hfs, List.mem_filter, List.mem_range, decide_eq_true_eq]
  have hper : l.Perm (List.range n) := (List.perm_ext_iff_of_nodup hl.nd List.nodup_range).mpr fun a => by rw [hl.mem, List.mem_range]
  -- a sum over the fixed ones
  have key : ∀ f : Nat → Int, sI (List.range fs.length) (fun j => f fs[j]!) = sI (List.range n) fun x => if F x = true then f l[x]! else 0 := fun f => by
    rw [← sI_at, hfs, sI_filter, ← sI_perm hper, sI_at, hl.len]
    refine sI_cg fun x hx => ?_
    have hx := List.mem_range.mp hx
    by_cases q : F x = true
    · rw [if_pos q, if_pos (decide_eq_true ((hF x hx).mp q))]
    · rw [if_neg q, if_neg fun e => q ((hF x hx).mpr (of_decide_eq_true e))]
  have hidx : ∀ j, j < fs.length → fs.idxOf fs[j]! = j := fun j hj => idx_at hnd hj
  refine ⟨fun x => if F x = true then G (fs.idxOf l[x]!) else 0, fun x hx => ?_, ?_⟩
  · show (if F x = true then G (fs.idxOf l[x]!) else 0) = _
    by_cases q : F x = true
    · rw [if_pos q, if_pos q]
      have hm : l[x]! ∈ fs := (hmem _).mpr ⟨hl.lt hx, (hF x hx).mp q⟩
      have hi : fs.idxOf l[x]! < fs.length := List.idxOf_lt_length_iff.mpr hm
      rw [hG _ hi]
      congr 1
      have e1 : fs[fs.idxOf l[x]!]! = l[x]! := at_idx hm
      rw [e1]
      have e2 : sI (List.range fs.length) (fun j => if nmR n l r fs[j]! l[x]! = true then G j else 0) = sI (List.range fs.length) fun j => (fun b => if nmR n l r b l[x]! = true then G (fs.idxOf b) else 0) fs[j]! := sI_cg fun j hj => by
        show _ = if nmR n l r fs[j]! l[x]! = true then G (fs.idxOf fs[j]!) else 0
        rw [hidx j (List.mem_range.mp hj)]
      rw [e2]
      refine (key fun b => if nmR n l r b l[x]! = true then G (fs.idxOf b) else 0).trans (sI_cg fun y hy => ?_)
      have hy := List.mem_range.mp hy
      show (if F y = true then (if nmR n l r l[y]! l[x]! = true then G (fs.idxOf l[y]!) else 0) else 0) = if r y x = true then (if F y = true then G (fs.idxOf l[y]!) else 0) else 0
      rw [nm_at hl hy hx]
      by_cases q1 : F y = true <;> by_cases q2 : r y x = true <;> simp [q1, q2]
    · rw [if_neg q, if_neg q]
  · have e2 : sI (List.range fs.length) G = sI (List.range fs.length) fun j => (fun b => G (fs.idxOf b)) fs[j]! := sI_cg fun j hj => by
      show _ = G (fs.idxOf fs[j]!)
      rw [hidx j (List.mem_range.mp hj)]
    rw [e2]
    exact key fun b => G (fs.idxOf b)
end
end K58

namespace K58
open PySem L2 Z V K06
open PySem.Spec PyProof.Rows
variable [Tabs]
set_option synthInstance.maxHeartbeats 0
set_option synthInstance.maxSize 1000000
local macro_rules | `(tactic| decreasing_trivial_pre_omega) => `(tactic| first
  | ((with_reducible refine ix_less ?_ ?_); omega)
  | ((with_reducible refine ix_rowB ?_ ?_); omega)
  | (with_reducible refine len_less ?_)
  | (with_reducible refine E1.imp ?_)
  | ((with_reducible refine rng1_n ?_ ?_); omega)
  | ((with_reducible refine rng2_n ?_ ?_ ?_); omega; omega)
  | ((with_reducible refine o_subN ?_ ?_); omega)
  | ((with_reducible refine o_mulN ?_ ?_); omega)
  | ((with_reducible refine o_divN ?_ ?_ ?_); omega; omega)
  | ((with_reducible refine o_modN ?_ ?_); omega)
  | ((with_reducible refine o_shl1 ?_ ?_); omega)
  | ((with_reducible refine ix_rngL ?_ ?_); omega)
  | ((with_reducible refine ix_tab ?_ ?_); omega)
  | ((with_reducible refine ix_mapL ?_ ?_); omega)
  | ((with_reducible refine ix_mapT ?_ ?_); omega)
  | ((with_reducible refine o_modIN ?_ ?_); omega)
  | ((with_reducible refine o_divIN ?_ ?_ ?_); omega; omega)
  | ((with_reducible refine o_mulIN ?_ ?_); omega)
  | ((with_reducible refine o_mulNI ?_ ?_); omega)
  | ((with_reducible refine o_mulNN ?_ ?_); omega)
  | ((with_reducible refine o_mul1 ?_ ?_); omega)
  | ((with_reducible refine o_mulC ?_ ?_); omega)
  | ((with_reducible refine br_dt ?_ ?_); omega)
  | ((with_reducible refine br_df ?_ ?_); omega)
  | ((with_reducible refine o_addT ?_ ?_); (focus (simp [bigN]; done)))
  | ((with_reducible refine o_addL ?_ ?_); (focus (simp [bigN]; done)))
  | ((with_reducible refine br_dt ?_ ?_); exact rfl)
  | ((with_reducible refine br_df ?_ ?_); exact Bool.false_ne_true)
  | ((with_reducible refine br_df ?_ ?_); exact (fun h => Bool.false_ne_true h.symm))
  | ((with_reducible refine w_xis_t ?_ ?_); decide +kernel)
  | ((with_reducible refine w_xis_f ?_ ?_); decide +kernel)
  | ((with_reducible refine w_xf1 ?_ ?_); decide +kernel)
  | ((with_reducible refine tryq_t ?_ ?_ ?_); (focus (simp; done)); decide +kernel; dsimp only [List.set])
  | ((with_reducible refine tryq_f ?_ ?_ ?_); (focus (simp; done)); decide +kernel))
section
variable {n k : Nat} {S : Sto} {R : XV → Sto → Prop} {Q : D → Sto → Prop}
theorem same_int {i : Int} (q : Q (.bl true) S) : W (F__law_same (k + 1) [.int i, .int i] S) R Q := by
  show W (Fof 0 N__law_same (run__law_same (F__law_same k)) [.int i, .int i] S) R Q
  refine go__law_same ?_
  dsimp only
  (repeat decreasing_trivial_pre_omega)
  rw [decide_eq_true rfl]
  exact fin_p0 trivial q
theorem same_tup {l : List Nat} (hl : l.length ≤ 1000) (q : Q (.bl true) S) : W (F__law_same (k + 2) [.tup (l.map dN), .tup (l.map dN)] S) R Q := by
  show W (Fof 0 N__law_same (run__law_same (F__law_same (k + 1))) [.tup (l.map dN), .tup (l.map dN)] S) R Q
  refine go__law_same ?_
  dsimp only
  (repeat decreasing_trivial_pre_omega)
  refine for_r (fun i env T => T = S ∧ ∃ x2, env = [some (.tup (l.map dN)), some (.tup (l.map dN)), x2]) ⟨rfl, _, rfl⟩ ?_ ?_
  · rintro i hi env T ⟨rfl, x2, rfl⟩
    (repeat decreasing_trivial_pre_omega)
    refine same_int ?_
    (repeat decreasing_trivial_pre_omega)
    exact ⟨rfl, _, rfl⟩
  · rintro env T ⟨rfl, x2, rfl⟩
    (repeat decreasing_trivial_pre_omega)
    exact fin_p0 trivial q
end
section
variable {t : Tp} {n : Nat} {r : Nat → Nat → Bool} {row l tl : List Nat} {F : Nat → Bool} {tot : Int} {B S : Sto} {R : XV → Sto → Prop} {Q : D → Sto → Prop}
theorem nm_rk (hn : n ≤ 64) (hU : Up n r) (hl : Nm n l) : Rk n (nmR n l r) fun a => l.idxOf a := by
  refine ⟨fun x y hx hy h => ?_, fun x hx => ?_⟩
  · unfold nmR at h
    rw [decide_eq_true hx, decide_eq_true hy] at h
    exact (hU.lt _ _ h).1
  · have := hl.idxlt hx
    show l.idxOf x < 64
    omega
theorem lefs_told (hn : n ≤ 64) (hU : Up n r) (hl : Nm n l) (htl : tl.length = n) (hF : ∀ x, x < n → (F x = true ↔ tl[l[x]!]! = l[x]!)) (ht : ∀ h, Wt n r F h → sI (List.range n) h = tot) (k : Q (.int tot) S) : W (F_lefschetz [ordD n (canon n (nmR n l r)), .tup (tl.map dN)] S) R Q := by
  refine w_lefs hn htl (nm_rk hn hU hl) fun G hG => ?_
  obtain ⟨h, h1, h2⟩ := wt_link hl rfl hF hG
  rw [h2, ht h h1]
  exact k
theorem all_fs : (List.range n).filter (fun a => decide ((List.range n)[a]! = a)) = List.range n := List.filter_eq_self.mpr fun a ha => by
  have ha := List.mem_range.mp ha
  rw [getElem!_pos _ _ (by simpa using ha), List.getElem_range]
  exact decide_eq_true rfl
theorem rg_at {a : Nat} (ha : a < n) : (List.range n)[a]! = a := by rw [getElem!_pos _ _ (by simpa using ha), List.getElem_range]
theorem euler_told (hn : n ≤ 64) (hU : Up n r) (hl : Nm n l) (ht : ∀ h, Wt n r (fun _ => true) h → sI (List.range n) h = tot) (k : Q (.int tot) S) : W (F_euler [ordD n (canon n (nmR n l r))] S) R Q := by
  refine w_euler hn (nm_rk hn hU hl) fun G hG => ?_
  obtain ⟨h, h1, h2⟩ := wt_link (F := fun _ => true) (fs := List.range n) (tl := List.range n) (G := G) hl all_fs.symm (fun x hx => by rw [rg_at (hl.lt hx)]; simp) (by
    intro i hi
    rw [List.length_range] at hi ⊢
    rw [hG i hi]
    congr 1
    refine sI_cg fun j hj => ?_
    rw [rg_at (List.mem_range.mp hj), rg_at hi])
  rw [List.length_range] at h2
  rw [h2, ht h h1]
  exact k
theorem fix_iff (hl : Nm n l) (hr : Rw n row) (hv : ∀ x, x < n → tl[l[x]!]! = l[row[x]!]!) {x : Nat} (hx : x < n) : tl[l[x]!]! = l[x]! ↔ row[x]! = x := by
  rw [hv x hx]
  constructor
  · intro e
    rw [← hl.idx (hr.lt x hx), e, hl.idx hx]
  · intro e; rw [e]
theorem due_is (hl : Nm n l) (hr : Rw n row) (hv : ∀ x, x < n → tl[l[x]!]! = l[row[x]!]!) : (sortNum ((((List.range n).filter fun x => decide (row[x]! = x)).map fun x => l[x]!).map fun x : Nat => (x : Int))).map D.int = ((List.range n).filter fun a => decide (tl[a]! = a)).map dN := by
  have e : sortNum ((((List.range n).filter fun x => decide (row[x]! = x)).map fun x => l[x]!).map fun x : Nat => (x : Int)) = ((List.range n).filter fun a => decide (tl[a]! = a)).map fun x : Nat => (x : Int) := by
    refine srtNum_uniq ((sortNum_perm _).trans (List.Perm.map _ ((List.perm_ext_iff_of_nodup (nd_map (List.nodup_range.filter _) fun x hx y hy e => ?_) (List.nodup_range.filter _)).mpr fun a => ?_))) (sortNum_srt _) (List.pairwise_map.mpr ((List.Pairwise.filter _ List.pairwise_lt_range).imp fun {a b} h => by omega))
    · have hx := List.mem_range.mp (List.mem_filter.mp hx).1
      have hy := List.mem_range.mp (List.mem_filter.mp hy).1
      have e : l[x]! = l[y]! := e
      rw [← hl.idx hx, e, hl.idx hy]
    · rw [List.mem_map, List.mem_filter, List.mem_range, decide_eq_true_eq]
      constructor
      · rintro ⟨x, hx, rfl⟩
        obtain ⟨h1, h2⟩ := List.mem_filter.mp hx
        have h1 := List.mem_range.mp h1
        exact ⟨hl.lt h1, (fix_iff hl hr hv h1).mpr (of_decide_eq_true h2)⟩
      · rintro ⟨h1, h2⟩
        have h3 := hl.idxlt h1
        have e : l[l.idxOf a]! = a := hl.at h1
        refine ⟨l.idxOf a, List.mem_filter.mpr ⟨List.mem_range.mpr h3, decide_eq_true ((fix_iff hl hr hv h3).mp ?_)⟩, e⟩
        rw [e]; exact h2
  rw [e, List.map_map]
  rfl
theorem w_rgLst {fa : EM D} {env : En} (k : W (fa env S) R fun d S1 => ∃ n : Nat, d = dN n ∧ n ≤ 1000000 ∧ Q (.lst ((List.range n).map dN)) S1) : W (zRgA .lst fa env S) R Q :=
  w_bnd (w_use k (fun _ _ q => q) fun d S1 q => by
    obtain ⟨n, rfl, hn, q⟩ := q
    show W (if (n : Int) ≤ 1000000 ∧ -1000000 ≤ (n : Int) then RgK.res .lst (rangeD 0 n) S1 else .stk) R Q
    rw [if_pos ⟨by omega, by omega⟩]
    have e : rangeD 0 (n : Int) = (List.range n).map dN := by
      unfold rangeD
      rw [show ((n : Int) - 0).toNat = n by omega]
      exact List.map_congr_left fun x _ => by show D.int _ = D.int _; congr 1; omega
    rw [e]
    exact ⟨q⟩)
theorem w_map_right (hn : n ≤ 8) (hU : Up n r) (hr : Rw n row) (k : ∀ t', Q (.bl true) (stT t' B)) : W (F__law_map_right [.ptr 0, lessD n r, .lst (row.map dN)] (stT t B)) R Q := by
  refine go__law_map_right ?_
  have hrl := hr.len
  (repeat decreasing_trivial_pre_omega)
  refine w_shuffled (by omega) fun l t1 hper => ?_
  have hl := Nm.of hper
  have hll := hl.len
  (repeat decreasing_trivial_pre_omega)
  refine w_told (by omega) hl ?_
  (repeat decreasing_trivial_pre_omega)
  refine w_named (by omega) hl hr fun tl htl hv => ?_
  (repeat decreasing_trivial_pre_omega)
  refine lc_pure (L := List.range n) (mk := dN) (p := fun x => decide (row[x]! = x)) (v := fun x => dN l[x]!) (by simp [bigN]; omega) (fun x hx => ?_) ?_
  · have hx := List.mem_range.mp hx
    dsimp only [wipeE, List.set]
    (repeat decreasing_trivial_pre_omega)
    exact ⟨rfl, rfl, fun _ => by (repeat decreasing_trivial_pre_omega); exact ⟨rfl, rfl⟩⟩
  obtain ⟨ds, hds⟩ : ∃ ds, ((List.range n).filter fun x => decide (row[x]! = x)).map (fun x => l[x]!) = ds := ⟨_, rfl⟩
  rw [show (((List.range n).filter fun x => decide (row[x]! = x)).map fun x => dN l[x]!) = ds.map dN by rw [← hds, List.map_map]; rfl]
  refine w_ok (a := .lst (ds.map dN)) rfl ?_
  (repeat decreasing_trivial_pre_omega)
  have hdl : ds.length < 64 := by
    rw [← hds, List.length_map]
    exact Nat.lt_of_le_of_lt (List.length_filter_le _ _) (by simp; omega)
  refine b_sortI (ns := ds.map fun x : Nat => (x : Int)) (by simp only [seqOf, Option.bind_some, intsOf_N]) (by rw [List.length_map]; exact hdl) ?_
  have hdue := due_is hl hr hv
  rw [hds] at hdue
  rw [hdue]
  obtain ⟨fs, hfs⟩ : ∃ fs, ((List.range n).filter fun a => decide (tl[a]! = a)) = fs := ⟨_, rfl⟩
  have hfl : fs.length ≤ 1000 := by
    rw [← hfs]
    exact Nat.le_trans (List.length_filter_le _ _) (by simp; omega)
  rw [hfs]
  have fx : ∀ {S : Sto} {R : XV → Sto → Prop} {Q : D → Sto → Prop}, Q (.tup (fs.map dN)) S → W (F_fixed_points [ordD n (canon n (nmR n l r)), .tup (tl.map dN)] S) R Q := fun k => w_fixed (by omega) htl (by rw [hfs]; exact k)
  (repeat decreasing_trivial_pre_omega)
  refine fx ?_
  (repeat decreasing_trivial_pre_omega)
  refine same_tup hfl ?_
  (repeat decreasing_trivial_pre_omega)
  refine fx ?_
  (repeat decreasing_trivial_pre_omega)
  refine same_tup hfl ?_
  (repeat decreasing_trivial_pre_omega)
  refine w_traced hn hU rfl hrl fun ls hR => ?_
  obtain ⟨tot, htot⟩ : ∃ tot, (((chs r ls).filter fun c => decide (0 < c.length)).map (wC row)).sum = tot := ⟨_, rfl⟩
  rw [htot]
  have lf : ∀ {S : Sto} {R : XV → Sto → Prop} {Q : D → Sto → Prop}, Q (.int tot) S → W (F_lefschetz [ordD n (canon n (nmR n l r)), .tup (tl.map dN)] S) R Q := fun k => lefs_told (F := fun x => decide (row[x]! = x)) (by omega) hU hl htl (fun x hx => by rw [decide_eq_true_eq, fix_iff hl hr hv hx]) (fun h hW => by rw [← htot]; exact (wt_total hU (fun _ _ => rfl) hW hR).symm) k
  (repeat decreasing_trivial_pre_omega)
  refine lf ?_
  (repeat decreasing_trivial_pre_omega)
  refine same_int ?_
  (repeat decreasing_trivial_pre_omega)
  refine lf ?_
  (repeat decreasing_trivial_pre_omega)
  refine same_int ?_
  (repeat decreasing_trivial_pre_omega)
  refine w_rgLst ?_
  (repeat decreasing_trivial_pre_omega)
  refine ⟨n, rfl, by omega, ?_⟩
  (repeat decreasing_trivial_pre_omega)
  have hid : ∀ x, x < n → (List.range n)[x]! = x := fun x hx => rg_at hx
  refine w_traced (row := List.range n) (rd := .tup ((List.range n).map dN)) hn hU rfl (by simp) fun ls2 hR2 => ?_
  obtain ⟨tot2, htot2⟩ : ∃ tot2, (((chs r ls2).filter fun c => decide (0 < c.length)).map (wC (List.range n))).sum = tot2 := ⟨_, rfl⟩
  rw [htot2]
  have wt2 : ∀ h, Wt n r (fun _ => true) h → sI (List.range n) h = tot2 := fun h hW => by
    rw [← htot2]
    exact (wt_total (row := List.range n) hU (fun x hx => by rw [hid x hx]; simp) hW hR2).symm
  (repeat decreasing_trivial_pre_omega)
  refine lefs_told (tl := List.range n) (F := fun _ => true) (tot := tot2) (by omega) hU hl (by simp) (fun x hx => by rw [hid _ (hl.lt hx)]; simp) wt2 ?_
  (repeat decreasing_trivial_pre_omega)
  refine same_int ?_
  (repeat decreasing_trivial_pre_omega)
  refine euler_told (tot := tot2) (by omega) hU hl wt2 ?_
  (repeat decreasing_trivial_pre_omega)
  refine same_int ?_
  (repeat decreasing_trivial_pre_omega)
  refine w_fixed (row := List.range n) (by omega) (by simp) ?_
  rw [all_fs]
  (repeat decreasing_trivial_pre_omega)
  refine same_tup (by simp; omega) ?_
  (repeat decreasing_trivial_pre_omega)
  exact fin_t0 trivial (k _)
end
end K58

namespace K58
open PySem L2 Z V K06
open PySem.Spec PyProof.Rows
variable [Tabs]
set_option synthInstance.maxHeartbeats 0
set_option synthInstance.maxSize 1000000
local macro_rules | `(tactic| decreasing_trivial_pre_omega) => `(tactic| first
  | ((with_reducible refine ix_less ?_ ?_); omega)
  | ((with_reducible refine ix_rowB ?_ ?_); omega)
  | (with_reducible refine len_less ?_)
  | (with_reducible refine E1.imp ?_)
  | ((with_reducible refine rng1_n ?_ ?_); omega)
  | ((with_reducible refine rng2_n ?_ ?_ ?_); omega; omega)
  | ((with_reducible refine o_subN ?_ ?_); omega)
  | ((with_reducible refine o_mulN ?_ ?_); omega)
  | ((with_reducible refine o_divN ?_ ?_ ?_); omega; omega)
  | ((with_reducible refine o_modN ?_ ?_); omega)
  | ((with_reducible refine o_shl1 ?_ ?_); omega)
  | ((with_reducible refine ix_rngL ?_ ?_); omega)
  | ((with_reducible refine ix_tab ?_ ?_); omega)
  | ((with_reducible refine ix_mapL ?_ ?_); omega)
  | ((with_reducible refine ix_mapT ?_ ?_); omega)
  | ((with_reducible refine o_modIN ?_ ?_); omega)
  | ((with_reducible refine o_divIN ?_ ?_ ?_); omega; omega)
  | ((with_reducible refine o_mulIN ?_ ?_); omega)
  | ((with_reducible refine o_mulNI ?_ ?_); omega)
  | ((with_reducible refine o_mulNN ?_ ?_); omega)
  | ((with_reducible refine o_mul1 ?_ ?_); omega)
  | ((with_reducible refine o_mulC ?_ ?_); omega)
  | ((with_reducible refine br_dt ?_ ?_); omega)
  | ((with_reducible refine br_df ?_ ?_); omega)
  | ((with_reducible refine o_addT ?_ ?_); (focus (simp [bigN]; done)))
  | ((with_reducible refine o_addL ?_ ?_); (focus (simp [bigN]; done)))
  | ((with_reducible refine br_dt ?_ ?_); exact rfl)
  | ((with_reducible refine br_df ?_ ?_); exact Bool.false_ne_true)
  | ((with_reducible refine br_df ?_ ?_); exact (fun h => Bool.false_ne_true h.symm))
  | ((with_reducible refine w_xis_t ?_ ?_); decide +kernel)
  | ((with_reducible refine w_xis_f ?_ ?_); decide +kernel)
  | ((with_reducible refine w_xf1 ?_ ?_); decide +kernel)
  | ((with_reducible refine tryq_t ?_ ?_ ?_); (focus (simp; done)); decide +kernel; dsimp only [List.set])
  | ((with_reducible refine tryq_f ?_ ?_ ?_); (focus (simp; done)); decide +kernel))
theorem w_tape {ns : List Int} {R : XV → Sto → Prop} {Q : D → Sto → Prop} (k : ∀ t, Q (.ptr 0) (stT t [])) : W (F__law_tape [.rol ns] []) R Q := by
  refine go__law_tape ?_
  (repeat decreasing_trivial_pre_omega)
  refine b_len (xs := ns.map D.int) rfl ?_
  rw [List.length_map]
  (repeat decreasing_trivial_pre_omega)
  refine ⟨_, rfl, ?_⟩
  refine for_l (L := ns) (mk := D.int) (fun L env T => T = [] ∧ ∃ (s : Nat) (x2 : Option D), env = [some (.rol ns), some (dN s), x2]) ⟨rfl, _, _, rfl⟩ ?_ ?_
  · rintro i L env T _ ⟨rfl, s, x2, rfl⟩
    (repeat decreasing_trivial_pre_omega)
    exact ⟨rfl, _, _, rfl⟩
  · rintro env T ⟨rfl, s, x2, rfl⟩
    (repeat decreasing_trivial_pre_omega)
    refine b_list (xs := ns.map D.int) rfl ?_
    (repeat decreasing_trivial_pre_omega)
    exact ⟨rfl, fin_grow (Nat.lt_irrefl 0) (k ⟨ns, 0, 0, 0, 0, s⟩)⟩
theorem Rw.app {m : Nat} {ra rb : List Nat} (ha : ra.length = m ∧ ∀ i, i < m → ra[i]! < m + m) (hb : rb.length = m ∧ ∀ i, i < m → rb[i]! < m + m) : Rw (m + m) (ra ++ rb) := by
  refine ⟨by simp [ha.1, hb.1], fun i hi => ?_⟩
  rw [getElem!_pos _ _ (by simp [ha.1, hb.1]; omega), List.getElem_append]
  split
  · rename_i h
    have := ha.2 i (by omega)
    rwa [getElem!_pos ra i h] at this
  · rename_i h
    have h2 := ha.1
    have := hb.2 (i - ra.length) (by omega)
    rwa [getElem!_pos rb _ (by have := hb.1; omega)] at this
theorem eval_law {ns : List Int} (hns : ns.length ≤ 63) : ∃ S, F_law [.rol ns] [] = .ok (.bl true) S := by
  suffices h : W (F_law [.rol ns] []) N0 fun d _ => d = .bl true by
    obtain ⟨d, S, e, rfl⟩ := w_ex h
    exact ⟨S, e⟩
  refine go_law ?_
  (repeat decreasing_trivial_pre_omega)
  refine w_tape fun t0 => ?_
  (repeat decreasing_trivial_pre_omega)
  refine w_drawn (by omega) fun n r t1 hn hU => ?_
  (repeat decreasing_trivial_pre_omega)
  refine for_r (fun i env T => ∃ x3 t, env = [some (.rol ns), some (.ptr 0), some (lessD n r), x3, none, none, none, none] ∧ T = stT t []) ⟨_, _, rfl, rfl⟩ ?_ ?_
  · rintro i hi env T ⟨x3, t, rfl, rfl⟩
    (repeat decreasing_trivial_pre_omega)
    refine w_map (by omega) fun row t2 hr => ?_
    (repeat decreasing_trivial_pre_omega)
    refine w_map_right hn hU hr fun t3 => ?_
    (repeat decreasing_trivial_pre_omega)
    exact ⟨_, _, rfl, rfl⟩
  rintro env T ⟨x3, t, rfl, rfl⟩
  (repeat decreasing_trivial_pre_omega)
  refine w_drawn (by omega) fun m r2 t2 hm hU2 => ?_
  (repeat decreasing_trivial_pre_omega)
  refine w_map (by omega) fun ra t3 hra => ?_
  have hral := hra.len
  (repeat decreasing_trivial_pre_omega)
  refine lc_map (L := ra) (mk := dN) (v := fun v => dN (m + v)) (by simp only [bigN]; omega) (fun v hv => ?_) ?_
  · dsimp only [wipeE, List.set]
    (repeat decreasing_trivial_pre_omega)
    exact ⟨rfl, rfl⟩
  rw [show (ra.map fun v => dN (m + v)) = (ra.map fun v => m + v).map dN by rw [List.map_map]; rfl]
  refine w_ok (a := .lst ((ra.map fun v => m + v).map dN)) rfl ?_
  (repeat decreasing_trivial_pre_omega)
  refine w_map (by omega) fun rb t4 hrb => ?_
  have hrbl := hrb.len
  refine o_addL (by simp [bigN]; omega) ?_
  rw [← List.map_append]
  (repeat decreasing_trivial_pre_omega)
  refine w_beside (by omega) (by omega) ?_
  have hU3 := bes_Up hU2 hU2
  have hrow : Rw (m + m) (ra.map (fun v => m + v) ++ rb) := Rw.app ⟨by rw [List.length_map]; exact hral, fun i hi => by
    have := hra.lt i hi
    rw [getElem!_pos _ _ (by rw [List.length_map]; omega), List.getElem_map]
    rw [getElem!_pos ra i (by omega)] at this
    omega⟩ ⟨hrbl, fun i hi => by have := hrb.lt i hi; omega⟩
  (repeat decreasing_trivial_pre_omega)
  refine w_map_right (n := m + m) (by omega) hU3 hrow fun t5 => ?_
  (repeat decreasing_trivial_pre_omega)
  refine w_map (by omega) fun rc t6 hrc => ?_
  (repeat decreasing_trivial_pre_omega)
  refine w_map (by omega) fun rd t7 hrd => ?_
  refine o_addL (by simp only [List.length_map, hrc.len, hrd.len, bigN]; omega) ?_
  rw [← List.map_append]
  (repeat decreasing_trivial_pre_omega)
  refine w_map_right (n := m + m) (by omega) hU3 (Rw.app ⟨hrc.len, fun i hi => by have := hrc.lt i hi; omega⟩ ⟨hrd.len, fun i hi => by have := hrd.lt i hi; omega⟩) fun t8 => ?_
  (repeat decreasing_trivial_pre_omega)
  exact fin_top rfl
end K58

namespace K07
open PySem L2 Z K06
open PySem.Spec PyProof.Rows
variable [Tabs]
/-! ### product -/
theorem rows_eq (m : Nat) : ∀ n : Nat, ((List.range n).flatMap fun x => (List.range m).map fun q => (x, q)) = (List.range (n * m)).map fun i => (i / m, i % m)
  | 0 => by simp
  | n + 1 => by
    rw [List.range_succ, List.flatMap_append, rows_eq m n, Nat.succ_mul, List.range_add, List.map_append]
    congr 1
    rw [List.flatMap_cons, List.flatMap_nil, List.append_nil, List.map_map]
    refine List.map_congr_left fun z hz => ?_
    have hz := List.mem_range.mp hz
    show (n, z) = ((n * m + z) / m, (n * m + z) % m)
    rw [Nat.mul_comm n m, Nat.mul_add_div (by omega), Nat.mul_add_mod, Nat.div_eq_of_lt hz, Nat.mod_eq_of_lt hz, Nat.add_zero]
theorem eval_selves {n : Nat} (hn : n ≤ 64) (u : Nat → Nat) (S : Sto) : F_with_selves [.lst (tab n u)] S = .ok (.lst (tab n fun x => u x ||| 2 ^ x)) S := by
  refine Fof_ret0 (ret_n ?_) (show D.cl _ (.lst _) from cls_map (f := fun x => dN (u x ||| 2 ^ x)) (fun x => clN _ _) (List.range n))
  have l := lcK_pure (L := List.range n) (mk := fun x => D.tup [dN x, dN (u x)]) (v := fun x => dN (u x ||| 2 ^ x)) (p := fun _ => true) (vs := [1, 2]) (g := zgTup 2 (zgCons (zgName 1) (zgCons (zgName 2) zgNil))) (ft := zYes) (fe := zOp dOr (zVar 2) (zOp dShl (zC (.int 1)) (zVar 1))) (fi := zEnum (zCons (zVar 0) zNil)) (env := startE N_with_selves [.lst (tab n u)]) (S := S) (S1 := S) (enum_tab rfl) (by simp [bigN]; omega) fun x hx => ⟨[some (.lst (tab n u)), some (dN x), some (dN (u x))], rfl, rfl, fun _ => by
    have h1 : dShl (.int 1) (dN x) S = .ok (dN (2 ^ x)) S := by
      have hx := List.mem_range.mp hx
      have : dShl (.int 1) (.int (x : Int)) S = _ := ev_shl 1 x S
      rw [dN, this, if_pos ⟨by omega, by omega, by decide⟩, Int.toNat_natCast, Int.one_mul, dN]
      simp
    refine op_n (d := dN (u x)) (d1 := dN (2 ^ x)) (S2 := S) rfl (op_n rfl rfl h1) ?_
    show (Rs.ok (D.int (Builtin.bitOr (u x : Int) ((2 ^ x : Nat) : Int))) S : Rs D) = _
    rw [bOr_nat]; rfl⟩
  rw [filter_tt] at l
  exact l
theorem mul_N {a b : Nat} (h : a < 2 ^ 60) (S : Sto) : dMul (dN a) (dN b) S = .ok (dN (a * b)) S := by
  have : dMul (.int (a : Int)) (.int (b : Int)) S = _ := ev_mul a b S
  rw [dN, dN, this, if_pos (.inl ⟨by omega, by omega⟩), dN, Int.natCast_mul]
theorem bit_t {a b : EM D} {env : En} {T : Sto} {w y : Nat} (ha : a env T = .ok (dN w) T) (hb : b env T = .ok (dN y) T) : zTru (zOp dAnd (zOp dShr a b) (zC (.int 1))) env T = .ok (w.testBit y) T := by
  have h1 : dShr (dN w) (dN y) T = .ok (.int ((w : Int) / 2 ^ y)) T := by
    have : dShr (.int (w : Int)) (.int (y : Int)) T = _ := ev_shr w y T
    rw [dN, dN, this, if_pos (by omega), Int.toNat_natCast]
  refine tru_n (op_n (op_n ha hb h1) rfl rfl) ?_
  show some (Builtin.bitAnd ((w : Int) / 2 ^ y) 1 != 0) = _
  rw [and_bit]
theorem tab_i {env : En} {T : Sto} {n x : Nat} {u : Nat → Nat} {a b : EM D} (hx : x < n) (ha : a env T = .ok (.lst (tab n u)) T) (hb : b env T = .ok (dN x) T) : zOp dIx a b env T = .ok (dN (u x)) T := by
  refine op_n ha hb ?_
  have : L2.atI (tab n u) (x : Int) = some (dN (u x)) := atI_nat (tab_get u hx)
  show dIx (.lst (tab n u)) (.int (x : Int)) T = _
  unfold dIx
  simp only [anyOf, seqOf, this]
theorem pair_ne (p p' : Nat × Nat) (S : Sto) : dNe (pD p) (pD p') S = .ok (.bl (!decide (p = p'))) S := by
  show dEqD true (pD p) (pD p') S = _
  unfold dEqD
  rw [toP_pD, toP_pD]
  simp only [sh_pP, and_self, if_true, eqv_pP]
/-- the pairs of the product, by the numbers of its points -/
theorem prod_pairs (n m : Nat) (hm : 0 < m) (q p : Nat → Nat → Bool) :
    ((List.range (n * m)).map fun i => (i / m, i % m)).flatMap (fun a => (((List.range (n * m)).map fun i => (i / m, i % m)).filter fun b => !decide (a = b) && ((decide (a.1 = b.1) || q a.1 b.1) && (decide (a.2 = b.2) || p a.2 b.2))).map fun b => (a.1 * m + a.2, b.1 * m + b.2)) = canon (n * m) (prd m q p) := by
  unfold canon
  rw [List.flatMap_map]
  have whole : ∀ i, i / m * m + i % m = i := fun i => by rw [Nat.mul_comm]; exact Nat.div_add_mod i m
  refine congrArg (fun f => List.flatMap f (List.range (n * m))) (funext fun i => ?_)
  rw [List.filter_map, List.map_map]
  have ep : (List.range (n * m)).filter ((fun b : Nat × Nat => !decide ((i / m, i % m) = b) && ((decide (i / m = b.1) || q (i / m) b.1) && (decide (i % m = b.2) || p (i % m) b.2))) ∘ fun i => (i / m, i % m)) = (List.range (n * m)).filter fun y => prd m q p i y := by
    refine List.filter_congr fun j _ => ?_
    show (!decide ((i / m, i % m) = (j / m, j % m)) && _) = prd m q p i j
    have : decide ((i / m, i % m) = (j / m, j % m)) = decide (i = j) := decide_eq_decide.mpr ⟨fun e => by
      have f1 := congrArg Prod.fst e
      have f2 := congrArg Prod.snd e
      simp only at f1 f2
      rw [← whole i, ← whole j, f1, f2], fun e => by rw [e]⟩
    rw [this]
    unfold prd
    rw [Bool.and_assoc]
  rw [ep]
  refine List.map_congr_left fun j _ => ?_
  show (i / m * m + i % m, j / m * m + j % m) = (i, j)
  rw [whole, whole]
theorem up_bit {n : Nat} (q : Nat → Nat → Bool) {x y : Nat} (hx : x < n) (hy : y < n) : (upF (canon n q) (fun _ => 0) x ||| 2 ^ x).testBit y = (decide (x = y) || q x y) := by
  rw [Nat.testBit_or, upF_bit, Nat.testBit_two_pow, Nat.zero_testBit, Bool.false_or, Bool.or_comm]
  congr 1
  rw [Bool.eq_iff_iff, decide_eq_true_eq, mem_canon]
  exact ⟨fun h => h.2.2, fun h => ⟨hx, hy, h⟩⟩
theorem eval_product {n m : Nat} (hn : n ≤ 64) (hm : m ≤ 64) (h : n * m ≤ 64) (q p : Nat → Nat → Bool) (S : Sto) : F_product [relD n q, relD m p] S = .ok (relD (n * m) (prd m q p)) S := by
  have a1 := K06.eval_above (P := canon n q) hn (fun e he => ⟨(ca_lt he).1, by have := (ca_lt he).2; omega⟩) S
  have a2 := K06.eval_above (P := canon m p) hm (fun e he => ⟨(ca_lt he).1, by have := (ca_lt he).2; omega⟩) S
  have b1 := eval_selves hn (upF (canon n q) fun _ => 0) S
  have b2 := eval_selves hm (upF (canon m p) fun _ => 0) S
  generalize hu : (fun x => upF (canon n q) (fun _ => 0) x ||| 2 ^ x) = u at b1
  generalize hw : (fun x => upF (canon m p) (fun _ => 0) x ||| 2 ^ x) = w at b2
  have ub : ∀ x y, x < n → y < n → (u x).testBit y = (decide (x = y) || q x y) := fun x y hx hy => by rw [← hu]; exact up_bit q hx hy
  have wb : ∀ x y, x < m → y < m → (w x).testBit y = (decide (x = y) || p x y) := fun x y hx hy => by rw [← hw]; exact up_bit p hx hy
  let R := (List.range (n * m)).map fun i => (i / m, i % m)
  have hR : ∀ e ∈ R, e.1 < n ∧ e.2 < m := fun e he => by
    obtain ⟨i, hi, rfl⟩ := List.mem_map.mp he
    have hi := List.mem_range.mp hi
    have m0 : 0 < m := Nat.pos_of_ne_zero fun e => by rw [e, Nat.mul_zero] at hi; omega
    exact ⟨Nat.div_lt_of_lt_mul (by rw [Nat.mul_comm]; exact hi), Nat.mod_lt _ m0⟩
  have lR : R.length = n * m := by simp [R]
  refine Fof_ret0 ?_ (cl_ordD _ _ _)
  refine seq_n (env' := [some (relD n q), some (relD m p), some (dN n), none, none, none, none, none, none, none, none, none]) (S' := S) (set_n (ord_ix (i := 0) rfl).1) ?_
  refine seq_n (env' := [some (relD n q), some (relD m p), some (dN n), some (dN m), none, none, none, none, none, none, none, none]) (S' := S) (set_n (ord_ix (i := 1) rfl).1) ?_
  have mul : ∀ env, env[2]? = some (some (dN n)) → env[3]? = some (some (dN m)) → zOp dMul (zVar 2) (zVar 3) env S = .ok (dN (n * m)) S := fun env h2 h3 => op_n (by rw [zVar, h2]) (by rw [zVar, h3]) (mul_N (by omega) S)
  refine seq_n (S' := S) (expr_n (callF1 (mul _ rfl rfl) (eval_size h S))) ?_
  refine seq_n (env' := [some (relD n q), some (relD m p), some (dN n), some (dN m), some (.lst (tab n u)), none, none, none, none, none, none, none]) (S' := S) (set_n (callF1 (callF1 rfl a1) b1)) ?_
  refine seq_n (env' := [some (relD n q), some (relD m p), some (dN n), some (dN m), some (.lst (tab n u)), some (.lst (tab m w)), none, none, none, none, none, none]) (S' := S) (set_n (callF1 (callF1 rfl a2) b2)) ?_
  have l1 := lcK2_pure (L := List.range n) (L1 := fun _ => List.range m) (mk := dN) (mk1 := dN) (p1 := fun _ _ => true) (v := fun x y => pD (x, y)) (c := 64) (vs := [8, 9]) (vs1 := [9]) (fi := zRange1 (zCons (zVar 2) zNil)) (g := zgName 8) (ft := zYes) (fi1 := zRange1 (zCons (zVar 3) zNil)) (g1 := zgName 9) (ft1 := zYes) (fe := zTup (zCons (zVar 8) (zCons (zVar 9) zNil))) (env := [some (relD n q), some (relD m p), some (dN n), some (dN m), some (.lst (tab n u)), some (.lst (tab m w)), none, none, none, none, none, none]) (S := S) (S1 := S) (rng1 (n := n) (by omega) rfl) (by simp [bigN]; omega) fun x hx => ⟨[some (relD n q), some (relD m p), some (dN n), some (dN m), some (.lst (tab n u)), some (.lst (tab m w)), none, none, some (dN x), none, none, none], rfl, rfl, rng1 (n := m) (by omega) rfl, by simpa using hm, fun y hy => ⟨[some (relD n q), some (relD m p), some (dN n), some (dN m), some (.lst (tab n u)), some (.lst (tab m w)), none, none, some (dN x), some (dN y), none, none], rfl, rfl, fun _ => tup2_n rfl rfl⟩⟩
  have e1 : ((List.range n).flatMap fun a => ((List.range m).filter fun _ => true).map fun y => pD (a, y)) = R.map pD := by
    show _ = ((List.range (n * m)).map fun i => (i / m, i % m)).map pD
    rw [← rows_eq, List.map_flatMap]
    simp only [filter_tt, List.map_map]
    rfl
  rw [e1] at l1
  refine seq_n (env' := [some (relD n q), some (relD m p), some (dN n), some (dN m), some (.lst (tab n u)), some (.lst (tab m w)), some (.lst (R.map pD)), none, none, none, none, none]) (S' := S) (set_n l1) ?_
  have l2 := lcK2_pure (L := R) (L1 := fun _ => R) (mk := pD) (mk1 := pD) (p1 := fun a b => !decide (a = b) && ((decide (a.1 = b.1) || q a.1 b.1) && (decide (a.2 = b.2) || p a.2 b.2))) (v := fun a b => pD (a.1 * m + a.2, b.1 * m + b.2)) (c := 64) (vs := [8, 9, 10, 11]) (vs1 := [10, 11]) (fi := zSrc (zVar 6)) (g := zgTup 2 (zgCons (zgName 8) (zgCons (zgName 9) zgNil))) (ft := zYes) (fi1 := zSrc (zVar 6)) (g1 := zgTup 2 (zgCons (zgName 10) (zgCons (zgName 11) zgNil)))
    (ft1 := zAnd (zB (zOp dNe (zTup (zCons (zVar 8) (zCons (zVar 9) zNil))) (zTup (zCons (zVar 10) (zCons (zVar 11) zNil))))) (zAnd (zTru (zOp dAnd (zOp dShr (zOp dIx (zVar 4) (zVar 8)) (zVar 10)) (zC (.int 1)))) (zTru (zOp dAnd (zOp dShr (zOp dIx (zVar 5) (zVar 9)) (zVar 11)) (zC (.int 1))))))
    (fe := zTup (zCons (zOp dAdd (zOp dMul (zVar 8) (zVar 3)) (zVar 9)) (zCons (zOp dAdd (zOp dMul (zVar 10) (zVar 3)) (zVar 11)) zNil))) (env := [some (relD n q), some (relD m p), some (dN n), some (dN m), some (.lst (tab n u)), some (.lst (tab m w)), some (.lst (R.map pD)), none, none, none, none, none]) (S := S) (S1 := S) (src_l rfl) (by rw [lR]; unfold bigN; omega) fun a ha => ⟨[some (relD n q), some (relD m p), some (dN n), some (dN m), some (.lst (tab n u)), some (.lst (tab m w)), some (.lst (R.map pD)), none, some (dN a.1), some (dN a.2), none, none], rfl, rfl, src_l rfl, by rw [lR]; exact h, fun b hb => ⟨[some (relD n q), some (relD m p), some (dN n), some (dN m), some (.lst (tab n u)), some (.lst (tab m w)), some (.lst (R.map pD)), none, some (dN a.1), some (dN a.2), some (dN b.1), some (dN b.2)], rfl, ?_, fun _ => tup2_n (op_n (op_n rfl rfl (mul_N (by have := (hR a ha).1; omega) S)) rfl (add_N _ _ _)) (op_n (op_n rfl rfl (mul_N (by have := (hR b hb).1; omega) S)) rfl (add_N _ _ _))⟩⟩
  · have e2 : (R.flatMap fun a => (R.filter fun b => !decide (a = b) && ((decide (a.1 = b.1) || q a.1 b.1) && (decide (a.2 = b.2) || p a.2 b.2))).map fun b => pD (a.1 * m + a.2, b.1 * m + b.2)) = (canon (n * m) (prd m q p)).map pD := by
      rcases Nat.eq_zero_or_pos m with m0 | m0
      · subst m0
        simp [R, canon]
      · rw [← prod_pairs n m m0 q p, List.map_flatMap]
        simp only [List.map_map]
        rfl
    rw [e2] at l2
    refine seq_n (S' := S) (set_n l2) ?_
    exact ret_n (tup2_n (mul _ rfl rfl) (tupOf_n rfl))
  · have t0 := b_n (op_n (a := zTup (zCons (zVar 8) (zCons (zVar 9) zNil))) (b := zTup (zCons (zVar 10) (zCons (zVar 11) zNil))) (env := [some (relD n q), some (relD m p), some (dN n), some (dN m), some (.lst (tab n u)), some (.lst (tab m w)), some (.lst (R.map pD)), none, some (dN a.1), some (dN a.2), some (dN b.1), some (dN b.2)]) (S := S) (d := pD a) (d1 := pD b) (S1 := S) (S2 := S) (tup2_n rfl rfl) (tup2_n rfl rfl) (pair_ne a b S))
    have t1 := bit_t (T := S) (env := [some (relD n q), some (relD m p), some (dN n), some (dN m), some (.lst (tab n u)), some (.lst (tab m w)), some (.lst (R.map pD)), none, some (dN a.1), some (dN a.2), some (dN b.1), some (dN b.2)]) (b := zVar 10) (tab_i (a := zVar 4) (b := zVar 8) (hR a ha).1 rfl rfl) rfl
    have t2 := bit_t (T := S) (env := [some (relD n q), some (relD m p), some (dN n), some (dN m), some (.lst (tab n u)), some (.lst (tab m w)), some (.lst (R.map pD)), none, some (dN a.1), some (dN a.2), some (dN b.1), some (dN b.2)]) (b := zVar 11) (tab_i (a := zVar 5) (b := zVar 9) (hR a ha).2 rfl rfl) rfl
    rw [ub _ _ (hR a ha).1 (hR b hb).1] at t1
    rw [wb _ _ (hR a ha).2 (hR b hb).2] at t2
    cases c0 : decide (a = b) with
    | true =>
      rw [c0] at t0
      exact and_f t0
    | false =>
      rw [c0] at t0
      refine and_n t0 ?_
      cases c1 : (decide (a.1 = b.1) || q a.1 b.1) with
      | false =>
        rw [c1] at t1
        exact and_f t1
      | true =>
        rw [c1] at t1
        exact and_n t1 t2
end K07

namespace K07
open PySem L2 Z K06
open PySem.Spec PyProof.Rows
variable [Tabs]
section
variable {n m : Nat} {q p : Nat → Nat → Bool} {fl : Bool}
end
end K07

namespace K07
open PySem L2 Z K06
open PySem.Spec PyProof.Rows
variable [Tabs]
section
variable {n m : Nat} {q p : Nat → Nat → Bool} {fl : Bool}
theorem zFor_n {i : EI} {g : GM} {b : SM} {env : En} {S S1 : Sto} {xs : List D} {gd : Option Nat} {r : Ss} (h : i env S = .ok ⟨xs, gd⟩ S1) (h2 : forL ⟨xs, gd⟩ g b xs env S1 = r) : zFor i g b env S = r := by
  rw [zFor, h]
  exact h2
end
end K07

namespace K07
open PySem L2 Z K06
open PySem.Spec PyProof.Rows
variable [Tabs]
theorem loop_n {b : SM} {g : GM} {P : Nat → En → Sto → Prop} {N : Nat} (xs : List D) (step : ∀ i env T, i < N → P i env T → ∃ env1 env2 T2, g (dN i) env = some env1 ∧ b env1 T = .mk (.next env2) T2 ∧ P (i + 1) env2 T2) : ∀ (k i : Nat) (env : En) (T : Sto), i + k = N → P i env T → ∃ env' T', P N env' T' ∧ forL ⟨xs, none⟩ g b ((List.range' i k).map dN) env T = .mk (.next env') T'
  | 0, i, env, T, h, hP => ⟨env, T, by rwa [show N = i by omega], by rw [List.range'_zero, List.map_nil, forL_nil rfl]⟩
  | k + 1, i, env, T, h, hP => by
    obtain ⟨env1, env2, T2, h1, h2, h3⟩ := step i env T (by omega) hP
    obtain ⟨env', T', h4, h5⟩ := loop_n xs step k (i + 1) env2 T2 (by omega) h3
    exact ⟨env', T', h4, by rw [List.range'_succ, List.map_cons, forL_cons rfl h1, h2, Ss.turn_next]; exact h5⟩
theorem for_n {b : SM} {g : GM} {P : Nat → En → Sto → Prop} {N : Nat} {i : EI} {env : En} {T : Sto} (hi : i env T = .ok ⟨(List.range N).map dN, none⟩ T) (h0 : P 0 env T) (step : ∀ i env T, i < N → P i env T → ∃ env1 env2 T2, g (dN i) env = some env1 ∧ b env1 T = .mk (.next env2) T2 ∧ P (i + 1) env2 T2) : ∃ env' T', P N env' T' ∧ zFor i g b env T = .mk (.next env') T' := by
  obtain ⟨env', T', h1, h2⟩ := loop_n ((List.range N).map dN) step N 0 env T (by omega) h0
  rw [← List.range_eq_range'] at h2
  exact ⟨env', T', h1, zFor_n hi h2⟩
section
variable {env : En} {T : Sto} {a b : EM D} {x y : Bool}
end
section
variable {n m : Nat} {q p : Nat → Nat → Bool}
end
end K07

namespace K58.K56
open PySem L2 Z K06 K07 K58
open PySem.Spec PyProof.Rows
variable [Tabs]
abbrev N__law_signs : List Str := ["up", "many", "ranked", "signs", "rank", "x", "y"]
noncomputable def run__law_signs : SM :=
    (zSeq (zSet 1 (zCall dLen (zCons (zVar 0) zNil)))
    (zSeq (zSet 2 (zCall dSorted (zCons (zLcK .frz [5] (zRange1 (zCons (zVar 1) zNil)) (zgName 5) zYes (zTup (zCons (zCall dLen (zCons (zLcK .frz [6] (zRange1 (zCons (zVar 1) zNil)) (zgName 6) (zTru (zOp dIx (zOp dIx (zVar 0) (zVar 6)) (zVar 5))) (zVar 6)) zNil)) (zCons (zVar 5) zNil)))) zNil)))
    (zSeq (zSet 3 (zOp dMulC (zLst (zCons (zC (.int 0)) zNil)) (zVar 1)))
    (zSeq (zFor (zSrc (zVar 2)) (zgTup 2 (zgCons (zgName 4) (zgCons (zgName 5) zgNil))) (zPut (zVar 3) (zVar 5) (zOp dSub (zC (.int 1)) (zCall dSum (zCons (zLcK .frz [6] (zRange1 (zCons (zVar 1) zNil)) (zgName 6) (zTru (zOp dIx (zOp dIx (zVar 0) (zVar 6)) (zVar 5))) (zOp dIx (zVar 3) (zVar 6))) zNil)))))
    (zRet (zVar 3))))))
noncomputable def F__law_signs : List D → Sto → Rs D := Fof 1 N__law_signs run__law_signs
/-- 0 up, 1 many, 2 ranked, 3 signs, 4 rank, 5 x, 6 y -/
theorem go__law_signs {d0 : D} {S : Sto} {R : XV → Sto → Prop} {Q : D → Sto → Prop} (h : V.X ((zSeq (zSet 1 (zCall dLen (zCons (zVar 0) zNil)))
    (zSeq (zSet 2 (zCall dSorted (zCons (zLcK .frz [5] (zRange1 (zCons (zVar 1) zNil)) (zgName 5) zYes (zTup (zCons (zCall dLen (zCons (zLcK .frz [6] (zRange1 (zCons (zVar 1) zNil)) (zgName 6) (zTru (zOp dIx (zOp dIx (zVar 0) (zVar 6)) (zVar 5))) (zVar 6)) zNil)) (zCons (zVar 5) zNil)))) zNil)))
    (zSeq (zSet 3 (zOp dMulC (zLst (zCons (zC (dN 0)) zNil)) (zVar 1)))
    (zSeq (zFor (zSrc (zVar 2)) (zgTup 2 (zgCons (zgName 4) (zgCons (zgName 5) zgNil))) (zPut (zVar 3) (zVar 5) (zOp dSub (zC (dN 1)) (zCall dSum (zCons (zLcK .frz [6] (zRange1 (zCons (zVar 1) zNil)) (zgName 6) (zTru (zOp dIx (zOp dIx (zVar 0) (zVar 6)) (zVar 5))) (zOp dIx (zVar 3) (zVar 6))) zNil)))))
    (zRet (zVar 3)))))) [some d0, none, none, none, none, none, none] S) (V.FinQ 1 S R Q)) : V.W (F__law_signs [d0] S) R Q := V.wf h
abbrev N__law_ways : List Str := ["up", "many", "ranked", "ways", "rank", "x", "y"]
noncomputable def run__law_ways : SM :=
    (zSeq (zSet 1 (zCall dLen (zCons (zVar 0) zNil)))
    (zSeq (zSet 2 (zCall dSorted (zCons (zLcK .frz [5] (zRange1 (zCons (zVar 1) zNil)) (zgName 5) zYes (zTup (zCons (zCall dLen (zCons (zLcK .frz [6] (zRange1 (zCons (zVar 1) zNil)) (zgName 6) (zTru (zOp dIx (zOp dIx (zVar 0) (zVar 6)) (zVar 5))) (zVar 6)) zNil)) (zCons (zVar 5) zNil)))) zNil)))
    (zSeq (zSet 3 (zOp dMulC (zLst (zCons (zC (.int 0)) zNil)) (zVar 1)))
    (zSeq (zFor (zSrc (zVar 2)) (zgTup 2 (zgCons (zgName 4) (zgCons (zgName 5) zgNil))) (zPut (zVar 3) (zVar 5) (zOp dAdd (zC (.int 1)) (zCall dSum (zCons (zLcK .frz [6] (zRange1 (zCons (zVar 1) zNil)) (zgName 6) (zTru (zOp dIx (zOp dIx (zVar 0) (zVar 6)) (zVar 5))) (zOp dIx (zVar 3) (zVar 6))) zNil)))))
    (zRet (zCall dSum (zCons (zVar 3) zNil)))))))
noncomputable def F__law_ways : List D → Sto → Rs D := Fof 0 N__law_ways run__law_ways
/-- 0 up, 1 many, 2 ranked, 3 ways, 4 rank, 5 x, 6 y -/
theorem go__law_ways {d0 : D} {S : Sto} {R : XV → Sto → Prop} {Q : D → Sto → Prop} (h : V.X ((zSeq (zSet 1 (zCall dLen (zCons (zVar 0) zNil)))
    (zSeq (zSet 2 (zCall dSorted (zCons (zLcK .frz [5] (zRange1 (zCons (zVar 1) zNil)) (zgName 5) zYes (zTup (zCons (zCall dLen (zCons (zLcK .frz [6] (zRange1 (zCons (zVar 1) zNil)) (zgName 6) (zTru (zOp dIx (zOp dIx (zVar 0) (zVar 6)) (zVar 5))) (zVar 6)) zNil)) (zCons (zVar 5) zNil)))) zNil)))
    (zSeq (zSet 3 (zOp dMulC (zLst (zCons (zC (dN 0)) zNil)) (zVar 1)))
    (zSeq (zFor (zSrc (zVar 2)) (zgTup 2 (zgCons (zgName 4) (zgCons (zgName 5) zgNil))) (zPut (zVar 3) (zVar 5) (zOp dAdd (zC (dN 1)) (zCall dSum (zCons (zLcK .frz [6] (zRange1 (zCons (zVar 1) zNil)) (zgName 6) (zTru (zOp dIx (zOp dIx (zVar 0) (zVar 6)) (zVar 5))) (zOp dIx (zVar 3) (zVar 6))) zNil)))))
    (zRet (zCall dSum (zCons (zVar 3) zNil))))))) [some d0, none, none, none, none, none, none] S) (V.FinQ 0 S R Q)) : V.W (F__law_ways [d0] S) R Q := V.wf h
abbrev N__law_first : List Str := ["up", "many", "row"]
noncomputable def run__law_first : SM :=
    (zRet (zLcK .frz [2] (zSrc (zSl (zVar 0) zNoPart (zPart (zVar 1)))) (zgName 2) zYes (zSl (zVar 2) zNoPart (zPart (zVar 1)))))
noncomputable def F__law_first : List D → Sto → Rs D := Fof 0 N__law_first run__law_first
/-- 0 up, 1 many, 2 row -/
theorem go__law_first {d0 d1 : D} {S : Sto} {R : XV → Sto → Prop} {Q : D → Sto → Prop} (h : V.X ((zRet (zLcK .frz [2] (zSrc (zSl (zVar 0) zNoPart (zPart (zVar 1)))) (zgName 2) zYes (zSl (zVar 2) zNoPart (zPart (zVar 1))))) [some d0, some d1, none] S) (V.FinQ 0 S R Q)) : V.W (F__law_first [d0, d1] S) R Q := V.wf h
abbrev N__law_product : List Str := ["one", "other", "spots", "x", "table", "q", "p"]
noncomputable def run__law_product : SM :=
    (zSeq (zSet 2 (zLst zNil))
    (zSeq (zFor (zRange1 (zCons (zCall dLen (zCons (zVar 0) zNil)) zNil)) (zgName 3) (zSet 2 (zOp dAdd (zVar 2) (zLcK .frz [5] (zRange1 (zCons (zCall dLen (zCons (zVar 1) zNil)) zNil)) (zgName 5) zYes (zTup (zCons (zVar 3) (zCons (zVar 5) zNil)))))))
    (zSeq (zSet 4 (zLstC zNil))
    (zSeq (zFor (zSrc (zVar 2)) (zgTup 2 (zgCons (zgName 3) (zgCons (zgName 5) zgNil))) (zExpr (zMethL dAppend (zVar 4) (zCons (zLcK .frz [6] (zSrc (zVar 2)) (zgName 6) zYes (zAndV (zOrV (zOp dEq (zVar 3) (zOp dIx (zVar 6) (zC (.int 0)))) (zOp dIx (zOp dIx (zVar 0) (zVar 3)) (zOp dIx (zVar 6) (zC (.int 0))))) (zAndV (zOrV (zOp dEq (zVar 5) (zOp dIx (zVar 6) (zC (.int 1)))) (zOp dIx (zOp dIx (zVar 1) (zVar 5)) (zOp dIx (zVar 6) (zC (.int 1))))) (zOp dNe (zVar 6) (zTup (zCons (zVar 3) (zCons (zVar 5) zNil))))))) zNil))))
    (zRet (zVar 4))))))
noncomputable def F__law_product : List D → Sto → Rs D := Fof 1 N__law_product run__law_product
/-- 0 one, 1 other, 2 spots, 3 x, 4 table, 5 q, 6 p -/
theorem go__law_product {d0 d1 : D} {S : Sto} {R : XV → Sto → Prop} {Q : D → Sto → Prop} (h : V.X ((zSeq (zSet 2 (zLst zNil))
    (zSeq (zFor (zRange1 (zCons (zCall dLen (zCons (zVar 0) zNil)) zNil)) (zgName 3) (zSet 2 (zOp dAdd (zVar 2) (zLcK .frz [5] (zRange1 (zCons (zCall dLen (zCons (zVar 1) zNil)) zNil)) (zgName 5) zYes (zTup (zCons (zVar 3) (zCons (zVar 5) zNil)))))))
    (zSeq (zSet 4 (zLstC zNil))
    (zSeq (zFor (zSrc (zVar 2)) (zgTup 2 (zgCons (zgName 3) (zgCons (zgName 5) zgNil))) (zExpr (zMethL dAppend (zVar 4) (zCons (zLcK .frz [6] (zSrc (zVar 2)) (zgName 6) zYes (zAndV (zOrV (zOp dEq (zVar 3) (zOp dIx (zVar 6) (zC (dN 0)))) (zOp dIx (zOp dIx (zVar 0) (zVar 3)) (zOp dIx (zVar 6) (zC (dN 0))))) (zAndV (zOrV (zOp dEq (zVar 5) (zOp dIx (zVar 6) (zC (dN 1)))) (zOp dIx (zOp dIx (zVar 1) (zVar 5)) (zOp dIx (zVar 6) (zC (dN 1))))) (zOp dNe (zVar 6) (zTup (zCons (zVar 3) (zCons (zVar 5) zNil))))))) zNil))))
    (zRet (zVar 4)))))) [some d0, some d1, none, none, none, none, none] S) (V.FinQ 1 S R Q)) : V.W (F__law_product [d0, d1] S) R Q := V.wf h
abbrev N__law_counts : List Str := ["up", "many", "row", "counts", "k", "x", "y"]
noncomputable def run__law_counts : SM :=
    (zSeq (zSet 1 (zCall dLen (zCons (zVar 0) zNil)))
    (zSeq (zSet 2 (zOp dMul (zLst (zCons (zC (.int 1)) zNil)) (zVar 1)))
    (zSeq (zSet 3 (zLstC zNil))
    (zSeq (zFor (zRange1 (zCons (zVar 1) zNil)) (zgName 4) (zSeq (zIfS (zB (zOp dEq (zCall dSum (zCons (zVar 2) zNil)) (zC (.int 0)))) zBrk zNext)
    (zSeq (zExpr (zMethL dAppend (zVar 3) (zCons (zCall dSum (zCons (zVar 2) zNil)) zNil)))
    (zSet 2 (zLcK .frz [5] (zRange1 (zCons (zVar 1) zNil)) (zgName 5) zYes (zCall dSum (zCons (zLcK .frz [6] (zRange1 (zCons (zVar 1) zNil)) (zgName 6) (zTru (zOp dIx (zOp dIx (zVar 0) (zVar 6)) (zVar 5))) (zOp dIx (zVar 2) (zVar 6))) zNil)))))))
    (zRet (zVar 3))))))
noncomputable def F__law_counts : List D → Sto → Rs D := Fof 1 N__law_counts run__law_counts
/-- 0 up, 1 many, 2 row, 3 counts, 4 k, 5 x, 6 y -/
theorem go__law_counts {d0 : D} {S : Sto} {R : XV → Sto → Prop} {Q : D → Sto → Prop} (h : V.X ((zSeq (zSet 1 (zCall dLen (zCons (zVar 0) zNil)))
    (zSeq (zSet 2 (zOp dMul (zLst (zCons (zC (dN 1)) zNil)) (zVar 1)))
    (zSeq (zSet 3 (zLstC zNil))
    (zSeq (zFor (zRange1 (zCons (zVar 1) zNil)) (zgName 4) (zSeq (zIfS (zB (zOp dEq (zCall dSum (zCons (zVar 2) zNil)) (zC (dN 0)))) zBrk zNext)
    (zSeq (zExpr (zMethL dAppend (zVar 3) (zCons (zCall dSum (zCons (zVar 2) zNil)) zNil)))
    (zSet 2 (zLcK .frz [5] (zRange1 (zCons (zVar 1) zNil)) (zgName 5) zYes (zCall dSum (zCons (zLcK .frz [6] (zRange1 (zCons (zVar 1) zNil)) (zgName 6) (zTru (zOp dIx (zOp dIx (zVar 0) (zVar 6)) (zVar 5))) (zOp dIx (zVar 2) (zVar 6))) zNil)))))))
    (zRet (zVar 3)))))) [some d0, none, none, none, none, none, none] S) (V.FinQ 1 S R Q)) : V.W (F__law_counts [d0] S) R Q := V.wf h
abbrev N__law_added : List Str := ["one", "other", "longest", "left", "right", "k"]
noncomputable def run__law_added : SM :=
    (zSeq (zSet 2 (zCall dMax2 (zCons (zCall dLen (zCons (zVar 0) zNil)) (zCons (zCall dLen (zCons (zVar 1) zNil)) zNil))))
    (zSeq (zSet 3 (zOp dAdd (zVar 0) (zOp dMul (zLst (zCons (zC (.int 0)) zNil)) (zOp dSub (zVar 2) (zCall dLen (zCons (zVar 0) zNil))))))
    (zSeq (zSet 4 (zOp dAdd (zVar 1) (zOp dMul (zLst (zCons (zC (.int 0)) zNil)) (zOp dSub (zVar 2) (zCall dLen (zCons (zVar 1) zNil))))))
    (zRet (zCall dTuple (zCons (zLcK .frz [5] (zRange1 (zCons (zVar 2) zNil)) (zgName 5) zYes (zOp dAdd (zOp dIx (zVar 3) (zVar 5)) (zOp dIx (zVar 4) (zVar 5)))) zNil))))))
noncomputable def F__law_added : List D → Sto → Rs D := Fof 0 N__law_added run__law_added
/-- 0 one, 1 other, 2 longest, 3 left, 4 right, 5 k -/
theorem go__law_added {d0 d1 : D} {S : Sto} {R : XV → Sto → Prop} {Q : D → Sto → Prop} (h : V.X ((zSeq (zSet 2 (zCall dMax2 (zCons (zCall dLen (zCons (zVar 0) zNil)) (zCons (zCall dLen (zCons (zVar 1) zNil)) zNil))))
    (zSeq (zSet 3 (zOp dAdd (zVar 0) (zOp dMul (zLst (zCons (zC (dN 0)) zNil)) (zOp dSub (zVar 2) (zCall dLen (zCons (zVar 0) zNil))))))
    (zSeq (zSet 4 (zOp dAdd (zVar 1) (zOp dMul (zLst (zCons (zC (dN 0)) zNil)) (zOp dSub (zVar 2) (zCall dLen (zCons (zVar 1) zNil))))))
    (zRet (zCall dTuple (zCons (zLcK .frz [5] (zRange1 (zCons (zVar 2) zNil)) (zgName 5) zYes (zOp dAdd (zOp dIx (zVar 3) (zVar 5)) (zOp dIx (zVar 4) (zVar 5)))) zNil)))))) [some d0, some d1, none, none, none, none] S) (V.FinQ 0 S R Q)) : V.W (F__law_added [d0, d1] S) R Q := V.wf h
abbrev N_law : List Str := ["script", "tape", "one", "other", "k", "first", "second", "due", "due_other", "table", "made", "left", "right"]
noncomputable def run_law : SM :=
    (zSeq (zSet 1 (zCallF 1 F__law_tape (zCons (zVar 0) zNil)))
    (zSeq (zSet 2 (zCallF 2 F__law_drawn (zCons (zVar 1) (zCons (zC (.int 7)) zNil))))
    (zSeq (zSet 3 (zCallF 2 F__law_drawn (zCons (zVar 1) (zCons (zC (.int 7)) zNil))))
    (zSeq (zFor (zRange1 (zCons (zC (.int 4)) zNil)) (zgName 4) (zSeq (zIfS (zB (zOp dLe (zCallF 1 F__law_ways (zCons (zCallF 2 F__law_product (zCons (zVar 2) (zCons (zVar 3) zNil))) zNil)) (zC (.int 3000)))) zBrk zNext)
    (zSeq (zSet 2 (zCallF 2 F__law_first (zCons (zVar 2) (zCons (zOp dDiv (zCall dLen (zCons (zVar 2) zNil)) (zC (.int 2))) zNil))))
    (zPar 2 3 (zCons (zVar 3) (zCons (zVar 2) zNil))))))
    (zSeq (zSet 5 (zCallF 2 F__law_told (zCons (zVar 2) (zCons (zCallF 2 F__law_shuffled (zCons (zVar 1) (zCons (zCall dLen (zCons (zVar 2) zNil)) zNil))) zNil))))
    (zSeq (zSet 6 (zCallF 2 F__law_told (zCons (zVar 3) (zCons (zCallF 2 F__law_shuffled (zCons (zVar 1) (zCons (zCall dLen (zCons (zVar 3) zNil)) zNil))) zNil))))
    (zSeq (zSet 7 (zCall dSum (zCons (zCallF 1 F__law_signs (zCons (zVar 2) zNil)) zNil)))
    (zSeq (zSet 8 (zCall dSum (zCons (zCallF 1 F__law_signs (zCons (zVar 3) zNil)) zNil)))
    (zSeq (zFor (zSrc (zLst (zCons (zTup (zCons (zVar 5) (zCons (zVar 6) zNil))) (zCons (zTup (zCons (zVar 6) (zCons (zVar 5) zNil))) zNil)))) (zgTup 2 (zgCons (zgName 11) (zgCons (zgName 12) zgNil))) (zSeq (zIfS (zNot (zTru (zCallF 2 (F__law_same 8) (zCons (zCallF 1 F_euler (zCons (zCallF 2 F_beside (zCons (zVar 11) (zCons (zVar 12) zNil))) zNil)) (zCons (zOp dAdd (zVar 7) (zVar 8)) zNil))))) (zRet (zC (.bl false))) zNext)
    (zIfS (zNot (zTru (zCallF 2 (F__law_same 8) (zCons (zCallK 1 F_euler [0] zNil (zCons (zCallK 2 F_product [1, 0] zNil (zCons (zVar 12) (zCons (zVar 11) zNil))) zNil)) (zCons (zOp dMul (zVar 7) (zVar 8)) zNil))))) (zRet (zC (.bl false))) zNext)))
    (zSeq (zSet 9 (zCallF 2 F__law_product (zCons (zVar 2) (zCons (zVar 3) zNil))))
    (zSeq (zSet 10 (zCallF 2 F__law_told (zCons (zVar 9) (zCons (zCallF 2 F__law_shuffled (zCons (zVar 1) (zCons (zCall dLen (zCons (zVar 9) zNil)) zNil))) zNil))))
    (zSeq (zIfS (zNot (zTru (zCallF 2 (F__law_same 8) (zCons (zCallF 1 F_euler (zCons (zVar 10) zNil)) (zCons (zOp dMul (zVar 7) (zVar 8)) zNil))))) (zRet (zC (.bl false))) zNext)
    (zSeq (zIfS (zOr (zNot (zTru (zCallF 2 (F__law_same 8) (zCons (zCallF 1 F_euler (zCons (zVar 5) zNil)) (zCons (zVar 7) zNil))))) (zNot (zTru (zCallF 2 (F__law_same 8) (zCons (zCallF 1 F_euler (zCons (zVar 6) zNil)) (zCons (zVar 8) zNil)))))) (zRet (zC (.bl false))) zNext)
    (zRet (zCallF 2 (F__law_same 8) (zCons (zCallF 1 F_chain_counts (zCons (zCallF 2 F_beside (zCons (zVar 5) (zCons (zVar 6) zNil))) zNil)) (zCons (zCallF 2 F__law_added (zCons (zCallF 1 F__law_counts (zCons (zVar 2) zNil)) (zCons (zCallF 1 F__law_counts (zCons (zVar 3) zNil)) zNil))) zNil)))))))))))))))))
noncomputable def F_law : List D → Sto → Rs D := Fof 0 N_law run_law
/-- 0 script, 1 tape, 2 one, 3 other, 4 k, 5 first, 6 second, 7 due, 8 due_other, 9 table, 10 made, 11 left, 12 right -/
theorem go_law {d0 : D} {S : Sto} {R : XV → Sto → Prop} {Q : D → Sto → Prop} (h : V.X ((zSeq (zSet 1 (zCallF 1 F__law_tape (zCons (zVar 0) zNil)))
    (zSeq (zSet 2 (zCallF 2 F__law_drawn (zCons (zVar 1) (zCons (zC (dN 7)) zNil))))
    (zSeq (zSet 3 (zCallF 2 F__law_drawn (zCons (zVar 1) (zCons (zC (dN 7)) zNil))))
    (zSeq (zFor (zRange1 (zCons (zC (dN 4)) zNil)) (zgName 4) (zSeq (zIfS (zB (zOp dLe (zCallF 1 F__law_ways (zCons (zCallF 2 F__law_product (zCons (zVar 2) (zCons (zVar 3) zNil))) zNil)) (zC (dN 3000)))) zBrk zNext)
    (zSeq (zSet 2 (zCallF 2 F__law_first (zCons (zVar 2) (zCons (zOp dDiv (zCall dLen (zCons (zVar 2) zNil)) (zC (dN 2))) zNil))))
    (zPar 2 3 (zCons (zVar 3) (zCons (zVar 2) zNil))))))
    (zSeq (zSet 5 (zCallF 2 F__law_told (zCons (zVar 2) (zCons (zCallF 2 F__law_shuffled (zCons (zVar 1) (zCons (zCall dLen (zCons (zVar 2) zNil)) zNil))) zNil))))
    (zSeq (zSet 6 (zCallF 2 F__law_told (zCons (zVar 3) (zCons (zCallF 2 F__law_shuffled (zCons (zVar 1) (zCons (zCall dLen (zCons (zVar 3) zNil)) zNil))) zNil))))
    (zSeq (zSet 7 (zCall dSum (zCons (zCallF 1 F__law_signs (zCons (zVar 2) zNil)) zNil)))
    (zSeq (zSet 8 (zCall dSum (zCons (zCallF 1 F__law_signs (zCons (zVar 3) zNil)) zNil)))
    (zSeq (zFor (zSrc (zLst (zCons (zTup (zCons (zVar 5) (zCons (zVar 6) zNil))) (zCons (zTup (zCons (zVar 6) (zCons (zVar 5) zNil))) zNil)))) (zgTup 2 (zgCons (zgName 11) (zgCons (zgName 12) zgNil))) (zSeq (zIfS (zNot (zTru (zCallF 2 (F__law_same 8) (zCons (zCallF 1 F_euler (zCons (zCallF 2 F_beside (zCons (zVar 11) (zCons (zVar 12) zNil))) zNil)) (zCons (zOp dAdd (zVar 7) (zVar 8)) zNil))))) (zRet (zC (.bl false))) zNext)
    (zIfS (zNot (zTru (zCallF 2 (F__law_same 8) (zCons (zCallK 1 F_euler [0] zNil (zCons (zCallK 2 F_product [1, 0] zNil (zCons (zVar 12) (zCons (zVar 11) zNil))) zNil)) (zCons (zOp dMul (zVar 7) (zVar 8)) zNil))))) (zRet (zC (.bl false))) zNext)))
    (zSeq (zSet 9 (zCallF 2 F__law_product (zCons (zVar 2) (zCons (zVar 3) zNil))))
    (zSeq (zSet 10 (zCallF 2 F__law_told (zCons (zVar 9) (zCons (zCallF 2 F__law_shuffled (zCons (zVar 1) (zCons (zCall dLen (zCons (zVar 9) zNil)) zNil))) zNil))))
    (zSeq (zIfS (zNot (zTru (zCallF 2 (F__law_same 8) (zCons (zCallF 1 F_euler (zCons (zVar 10) zNil)) (zCons (zOp dMul (zVar 7) (zVar 8)) zNil))))) (zRet (zC (.bl false))) zNext)
    (zSeq (zIfS (zOr (zNot (zTru (zCallF 2 (F__law_same 8) (zCons (zCallF 1 F_euler (zCons (zVar 5) zNil)) (zCons (zVar 7) zNil))))) (zNot (zTru (zCallF 2 (F__law_same 8) (zCons (zCallF 1 F_euler (zCons (zVar 6) zNil)) (zCons (zVar 8) zNil)))))) (zRet (zC (.bl false))) zNext)
    (zRet (zCallF 2 (F__law_same 8) (zCons (zCallF 1 F_chain_counts (zCons (zCallF 2 F_beside (zCons (zVar 5) (zCons (zVar 6) zNil))) zNil)) (zCons (zCallF 2 F__law_added (zCons (zCallF 1 F__law_counts (zCons (zVar 2) zNil)) (zCons (zCallF 1 F__law_counts (zCons (zVar 3) zNil)) zNil))) zNil))))))))))))))))) [some d0, none, none, none, none, none, none, none, none, none, none, none, none] S) (V.FinQ 0 S R Q)) : V.W (F_law [d0] S) R Q := V.wf h
end K58.K56

namespace K58.K56
open PySem L2 Z K06 K07 K58
open PySem.Spec PyProof.Rows
variable [Tabs]
def topS (i : Nat) : Stmt := PySem.Challenge.pw_strikecore_k56_euler_beside_and_product.main.body.getD i (.Pass ⟨0, 0, 0, 0⟩)
structure Gc (mg : Mg) : Prop where
  MOST_POINTS : ∃ t, mg "MOST_POINTS" = some (.int 64 t)
section
variable {P : Program} {w : World} {K : PySem.W.Frag} {mg : Mg} {base : Heap}
theorem sc_lowest_bit : FnScope N_lowest_bit ["mask"] (defScope (topS 4)) := ⟨rfl, rfl, rfl, by decide +kernel, rfl, by decide +kernel, by decide +kernel⟩
theorem fz_lowest_bit {f : Addr} {fd : FuncData} (B : Bi mg) (G : Gc mg)  (gm : mg "lowest_bit" = some (.ref f)) (hF : Fun K "lowest_bit" "lowest_bit" (topS 4) f fd) (hb : Binds K fd ["mask"] []) : FZ P w K mg base 1 "lowest_bit" (topS 4) ["mask"] F_lowest_bit := by
  have sc := sc_lowest_bit
  refine fz_of (run := run_lowest_bit) 0 gm hF sc hb (fun cdv A outer s H E hr => ?_) (fun ds S0 _ => impl_of ds S0)
  have tk := takes_of (X := cxOf (L2.CX P w) P w K mg base N_lowest_bit "lowest_bit" (defScope (topS 4)) f cdv A outer s H E) rfl rfl rfl rfl
  exact ⟨_, (zss_one (zs_ret (ze_op zo_sub (ze_bits (ze_op zo_and (zv 0) (ze_neg (zv 0)))) ze_int)))⟩
theorem sc_masks_above : FnScope N_masks_above ["order"] (defScope (topS 6)) := ⟨rfl, rfl, rfl, by decide +kernel, rfl, by decide +kernel, by decide +kernel⟩
theorem fz_masks_above {f : Addr} {fd : FuncData} (B : Bi mg) (G : Gc mg)  (gm : mg "masks_above" = some (.ref f)) (hF : Fun K "masks_above" "masks_above" (topS 6) f fd) (hb : Binds K fd ["order"] []) : FZ P w K mg base 1 "masks_above" (topS 6) ["order"] F_masks_above := by
  have sc := sc_masks_above
  refine fz_of (run := run_masks_above) 1 gm hF sc hb (fun cdv A outer s H E hr => ?_) (fun ds S0 _ => impl_of ds S0)
  have tk := takes_of (X := cxOf (L2.CX P w) P w K mg base N_masks_above "masks_above" (defScope (topS 6)) f cdv A outer s H E) rfl rfl rfl rfl
  exact ⟨_, (zss_cons (zs_asg (zv 0) (zg_tupK (K := K) rfl rfl (zgs_cons (zg_name (i := 2) sc.nd) (zgs_cons (zg_name (i := 3) sc.nd) zgs_nil))))
    (zss_cons (zs_set (i := 1) sc.nd (ze_op zo_mulC (ze_lst (za_cons ze_int za_nil)) (zv 2)))
    (zss_cons (zs_for (passes_of rfl) rfl (kzi_src (K := K) rfl (zv 3)) (zg_tupK (K := K) rfl rfl (zgs_cons (zg_name (i := 4) sc.nd) (zgs_cons (zg_name (i := 5) sc.nd) zgs_nil))) (zss_one (zs_augS (zv 1) (zv 4) (ze_op zo_shl ze_int (zv 5)) zi_or)))
    (zss_one (zs_ret (zv 1))))))⟩
theorem sc_masks_below : FnScope N_masks_below ["order"] (defScope (topS 7)) := ⟨rfl, rfl, rfl, by decide +kernel, rfl, by decide +kernel, by decide +kernel⟩
theorem fz_masks_below {f : Addr} {fd : FuncData} (B : Bi mg) (G : Gc mg)  (gm : mg "masks_below" = some (.ref f)) (hF : Fun K "masks_below" "masks_below" (topS 7) f fd) (hb : Binds K fd ["order"] []) : FZ P w K mg base 1 "masks_below" (topS 7) ["order"] F_masks_below := by
  have sc := sc_masks_below
  refine fz_of (run := run_masks_below) 1 gm hF sc hb (fun cdv A outer s H E hr => ?_) (fun ds S0 _ => impl_of ds S0)
  have tk := takes_of (X := cxOf (L2.CX P w) P w K mg base N_masks_below "masks_below" (defScope (topS 7)) f cdv A outer s H E) rfl rfl rfl rfl
  exact ⟨_, (zss_cons (zs_asg (zv 0) (zg_tupK (K := K) rfl rfl (zgs_cons (zg_name (i := 2) sc.nd) (zgs_cons (zg_name (i := 3) sc.nd) zgs_nil))))
    (zss_cons (zs_set (i := 1) sc.nd (ze_op zo_mulC (ze_lst (za_cons ze_int za_nil)) (zv 2)))
    (zss_cons (zs_for (passes_of rfl) rfl (kzi_src (K := K) rfl (zv 3)) (zg_tupK (K := K) rfl rfl (zgs_cons (zg_name (i := 4) sc.nd) (zgs_cons (zg_name (i := 5) sc.nd) zgs_nil))) (zss_one (zs_augS (zv 1) (zv 5) (ze_op zo_shl ze_int (zv 4)) zi_or)))
    (zss_one (zs_ret (zv 1))))))⟩
theorem sc_with_selves : FnScope N_with_selves ["masks"] (defScope (topS 8)) := ⟨rfl, rfl, rfl, by decide +kernel, rfl, by decide +kernel, by decide +kernel⟩
theorem fz_with_selves {f : Addr} {fd : FuncData} (B : Bi mg) (G : Gc mg)  (gm : mg "with_selves" = some (.ref f)) (hF : Fun K "with_selves" "with_selves" (topS 8) f fd) (hb : Binds K fd ["masks"] []) : FZ P w K mg base 1 "with_selves" (topS 8) ["masks"] F_with_selves := by
  have sc := sc_with_selves
  refine fz_of (run := run_with_selves) 0 gm hF sc hb (fun cdv A outer s H E hr => ?_) (fun ds S0 _ => impl_of ds S0)
  have tk := takes_of (X := cxOf (L2.CX P w) P w K mg base N_with_selves "with_selves" (defScope (topS 8)) f cdv A outer s H E) rfl rfl rfl rfl
  exact ⟨_, (zss_one (zs_ret (ze_lc (own := [("x", 1), ("mask", 2)]) (k := .frz) rfl rfl sc.nd (kzi_enum (K := K) rfl (by rfl) B.enumerate (za_cons (zv 0) za_nil)) (by first | exact blkOk_by (N := N_with_selves) (sc := defScope (topS 8)) (by decide +kernel) | exact blkOk_by (by with_unfolding_all rfl)) (fun _ _ _ _ _ => (zg_tupK (K := K) rfl rfl (zgs_cons (zg_name (i := 1) sc.nd) (zgs_cons (zg_name (i := 2) sc.nd) zgs_nil)))) (fun _ _ _ _ _ => zts_nil) (fun _ _ _ _ _ => (ze_op zo_or (zv 2) (ze_op zo_shl ze_int (zv 1)))))))⟩
theorem sc__law_tape : FnScope N__law_tape ["script"] (defScope (topS 19)) := ⟨rfl, rfl, rfl, by decide +kernel, rfl, by decide +kernel, by decide +kernel⟩
theorem fz__law_tape {f : Addr} {fd : FuncData} (B : Bi mg) (G : Gc mg)  (gm : mg "_law_tape" = some (.ref f)) (hF : Fun K "_law_tape" "_law_tape" (topS 19) f fd) (hb : Binds K fd ["script"] []) : FZ P w K mg base 1 "_law_tape" (topS 19) ["script"] F__law_tape := by
  have sc := sc__law_tape
  refine fz_of (run := run__law_tape) 0 gm hF sc hb (fun cdv A outer s H E hr => ?_) (fun ds S0 _ => impl_of ds S0)
  have tk := takes_of (X := cxOf (L2.CX P w) P w K mg base N__law_tape "_law_tape" (defScope (topS 19)) f cdv A outer s H E) rfl rfl rfl rfl
  exact ⟨_, (zss_cons (zs_set (i := 1) sc.nd (ze_op (kzo_add (K := K) rfl) ze_int (ze_callB (kcall_len (K := K) rfl) cs_len (by rfl) B.len PySem.boot_len (za_cons (zv 0) za_nil))))
    (zss_cons (zs_for (passes_of rfl) rfl (kzi_src (K := K) rfl (zv 0)) (zg_name (i := 2) sc.nd) (zss_one (zs_set (i := 1) sc.nd (ze_op zo_mod (ze_callT call_int1 cs_int (by rfl) B.int boot_int (za_cons (ze_op (kzo_add (K := K) rfl) (ze_op (kzo_add (K := K) rfl) (ze_op zo_mul (zv 1) ze_int) (ze_callB call_abs cs_abs (by rfl) B.abs (by decide +kernel) (za_cons (zv 2) za_nil))) ze_int) za_nil)) ze_int))))
    (zss_one (zs_ret (ze_dict (ks := [.inr "cells", .inr "at", .inr "value", .inr "digits", .inr "mixed", .inr "salt"]) .cel (zd_str (ze_callT (kcall_list (K := K) rfl) cs_list (by rfl) B.list (by decide +kernel) (za_cons (zv 0) za_nil)) (zd_str ze_int (zd_str ze_int (zd_str ze_int (zd_str ze_int (zd_str (zv 1) zd_nil)))))) (by decide))))))⟩
theorem sc__law_load : FnScope N__law_load ["tape"] (defScope (topS 20)) := ⟨rfl, rfl, rfl, by decide +kernel, rfl, by decide +kernel, by decide +kernel⟩
theorem fz__law_load {f : Addr} {fd : FuncData} (B : Bi mg) (G : Gc mg)  (gm : mg "_law_load" = some (.ref f)) (hF : Fun K "_law_load" "_law_load" (topS 20) f fd) (hb : Binds K fd ["tape"] []) : FZ P w K mg base 1 "_law_load" (topS 20) ["tape"] F__law_load := by
  have sc := sc__law_load
  refine fz_of (run := run__law_load) 0 gm hF sc hb (fun cdv A outer s H E hr => ?_) (fun ds S0 _ => impl_of ds S0)
  have tk := takes_of (X := cxOf (L2.CX P w) P w K mg base N__law_load "_law_load" (defScope (topS 20)) f cdv A outer s H E) rfl rfl rfl rfl
  exact ⟨_, (zss_cons (zs_set (i := 1) sc.nd (kze_ix (K := K) rfl (ze_dget hr (zv 0) ze_str) (ze_dget hr (zv 0) ze_str)))
    (zss_cons (zs_dput hr (zv 0) ze_str (ze_op (kzo_add (K := K) rfl) (ze_dget hr (zv 0) ze_str) ze_int))
    (zss_one (zs_if (zt_cmp (kzo_eq (K := K) rfl hr) (ze_op zo_mod (ze_callT call_int1 cs_int (by rfl) B.int boot_int (za_cons (zv 1) za_nil)) ze_int) ze_int) (zss_cons (zs_dput hr (zv 0) ze_str (ze_op zo_div (ze_callB call_abs cs_abs (by rfl) B.abs (by decide +kernel) (za_cons (zv 1) za_nil)) ze_int))
    (zss_one (zs_dput hr (zv 0) ze_str ze_int))) (zss_cons (zs_dput hr (zv 0) ze_str (ze_op zo_mod (ze_callT call_int1 cs_int (by rfl) B.int boot_int (za_cons (ze_op (kzo_add (K := K) rfl) (ze_op (kzo_add (K := K) rfl) (ze_op zo_mul (ze_dget hr (zv 0) ze_str) ze_int) (ze_op zo_div (ze_callB call_abs cs_abs (by rfl) B.abs (by decide +kernel) (za_cons (zv 1) za_nil)) ze_int)) ze_int) za_nil)) ze_int))
    (zss_one (zs_dput hr (zv 0) ze_str ze_int)))))))⟩
theorem sc__law_closed : FnScope N__law_closed ["many", "links"] (defScope (topS 24)) := ⟨rfl, rfl, rfl, by decide +kernel, rfl, by decide +kernel, by decide +kernel⟩
theorem fz__law_closed {f : Addr} {fd : FuncData} (B : Bi mg) (G : Gc mg)  (gm : mg "_law_closed" = some (.ref f)) (hF : Fun K "_law_closed" "_law_closed" (topS 24) f fd) (hb : Binds K fd ["many", "links"] []) : FZ P w K mg base 1 "_law_closed" (topS 24) ["many", "links"] F__law_closed := by
  have sc := sc__law_closed
  refine fz_of (run := run__law_closed) 2 gm hF sc hb (fun cdv A outer s H E hr => ?_) (fun ds S0 _ => impl_of ds S0)
  have tk := takes_of (X := cxOf (L2.CX P w) P w K mg base N__law_closed "_law_closed" (defScope (topS 24)) f cdv A outer s H E) rfl rfl rfl rfl
  exact ⟨_, (zss_cons (zs_set (i := 2) sc.nd (ze_lc (own := [("k", 7)]) (k := .cel) rfl rfl sc.nd (zi_range1 (by rfl) B.range (za_cons (zv 0) za_nil)) (by first | exact blkOk_by (N := N__law_closed) (sc := defScope (topS 24)) (by decide +kernel) | exact blkOk_by (by with_unfolding_all rfl)) (fun _ _ _ _ _ => (zg_name (i := 7) sc.nd)) (fun _ _ _ _ _ => zts_nil) (fun _ _ _ _ _ => (ze_op zo_mulC (ze_lst (za_cons ze_bl za_nil)) (zv 0)))))
    (zss_cons (zs_for (passes_of rfl) rfl (kzi_src (K := K) rfl (zv 1)) (zg_tupK (K := K) rfl rfl (zgs_cons (zg_name (i := 4) sc.nd) (zgs_cons (zg_name (i := 5) sc.nd) zgs_nil))) (zss_cons (zs_set (i := 6) sc.nd (kze_ix (K := K) rfl (zv 2) (zv 4)))
    (zss_one (zs_put (zv 6) (zv 5) ze_bl))))
    (zss_cons (zs_for (passes_of rfl) rfl (zi_range1 (by rfl) B.range (za_cons (zv 0) za_nil)) (zg_name (i := 3) sc.nd) (zss_one (zs_for (passes_of rfl) rfl (zi_range1 (by rfl) B.range (za_cons (zv 0) za_nil)) (zg_name (i := 4) sc.nd) (zss_one (zs_if (kzt_tru (K := K) rfl (kze_ix (K := K) rfl (kze_ix (K := K) rfl (zv 2) (zv 4)) (zv 3))) (zss_one (zs_put (zv 2) (zv 4) (ze_lc (own := [("y", 5)]) (k := .frz) rfl rfl sc.nd (zi_range1 (by rfl) B.range (za_cons (zv 0) za_nil)) (by first | exact blkOk_by (N := N__law_closed) (sc := defScope (topS 24)) (by decide +kernel) | exact blkOk_by (by with_unfolding_all rfl)) (fun _ _ _ _ _ => (zg_name (i := 5) sc.nd)) (fun _ _ _ _ _ => zts_nil) (fun _ _ _ _ _ => (ze_or (kze_ix (K := K) rfl (kze_ix (K := K) rfl (zv 2) (zv 4)) (zv 5)) (ze_one (kze_ix (K := K) rfl (kze_ix (K := K) rfl (zv 2) (zv 3)) (zv 5)))))))) zss_nil)))))
    (zss_one (zs_ret (zv 2))))))⟩
theorem sc__law_told : FnScope N__law_told ["up", "names"] (defScope (topS 26)) := ⟨rfl, rfl, rfl, by decide +kernel, rfl, by decide +kernel, by decide +kernel⟩
theorem fz__law_told {f : Addr} {fd : FuncData} (B : Bi mg) (G : Gc mg)  (gm : mg "_law_told" = some (.ref f)) (hF : Fun K "_law_told" "_law_told" (topS 26) f fd) (hb : Binds K fd ["up", "names"] []) : FZ P w K mg base 1 "_law_told" (topS 26) ["up", "names"] F__law_told := by
  have sc := sc__law_told
  refine fz_of (run := run__law_told) 0 gm hF sc hb (fun cdv A outer s H E hr => ?_) (fun ds S0 _ => impl_of ds S0)
  have tk := takes_of (X := cxOf (L2.CX P w) P w K mg base N__law_told "_law_told" (defScope (topS 26)) f cdv A outer s H E) rfl rfl rfl rfl
  exact ⟨_, (zss_cons (zs_set (i := 2) sc.nd (ze_lst za_nil))
    (zss_cons (zs_for (passes_of rfl) rfl (zi_range1 (by rfl) B.range (za_cons (ze_callB (kcall_len (K := K) rfl) cs_len (by rfl) B.len PySem.boot_len (za_cons (zv 0) za_nil)) za_nil)) (zg_name (i := 3) sc.nd) (zss_one (zs_set (i := 2) sc.nd (ze_op (kzo_add (K := K) rfl) (zv 2) (ze_lc (own := [("y", 4)]) (k := .frz) rfl rfl sc.nd (zi_range1 (by rfl) B.range (za_cons (ze_callB (kcall_len (K := K) rfl) cs_len (by rfl) B.len PySem.boot_len (za_cons (zv 0) za_nil)) za_nil)) (by first | exact blkOk_by (N := N__law_told) (sc := defScope (topS 26)) (by decide +kernel) | exact blkOk_by (by with_unfolding_all rfl)) (fun _ _ _ _ _ => (zg_name (i := 4) sc.nd)) (fun _ _ _ _ _ => (zts_one (kzt_tru (K := K) rfl (kze_ix (K := K) rfl (kze_ix (K := K) rfl (zv 0) (zv 3)) (zv 4))))) (fun _ _ _ _ _ => (ze_tup (za_cons (kze_ix (K := K) rfl (zv 1) (zv 3)) (za_cons (kze_ix (K := K) rfl (zv 1) (zv 4)) za_nil)))))))))
    (zss_one (zs_ret (ze_tup (za_cons (ze_callB (kcall_len (K := K) rfl) cs_len (by rfl) B.len PySem.boot_len (za_cons (zv 0) za_nil)) (za_cons (ze_callT (kcall_tuple (K := K) rfl) kcs_tuple (by rfl) B.tuple (by decide +kernel) (za_cons (ze_callB (kcall_sorted (K := K) rfl) cs_sorted (by rfl) B.sorted (by decide +kernel) (za_cons (zv 2) za_nil)) za_nil)) za_nil)))))))⟩
theorem sc__law_signs : FnScope N__law_signs ["up"] (defScope (topS 27)) := ⟨rfl, rfl, rfl, by decide +kernel, rfl, by decide +kernel, by decide +kernel⟩
theorem fz__law_signs {f : Addr} {fd : FuncData} (B : Bi mg) (G : Gc mg)  (gm : mg "_law_signs" = some (.ref f)) (hF : Fun K "_law_signs" "_law_signs" (topS 27) f fd) (hb : Binds K fd ["up"] []) : FZ P w K mg base 1 "_law_signs" (topS 27) ["up"] F__law_signs := by
  have sc := sc__law_signs
  refine fz_of (run := run__law_signs) 1 gm hF sc hb (fun cdv A outer s H E hr => ?_) (fun ds S0 _ => impl_of ds S0)
  have tk := takes_of (X := cxOf (L2.CX P w) P w K mg base N__law_signs "_law_signs" (defScope (topS 27)) f cdv A outer s H E) rfl rfl rfl rfl
  exact ⟨_, (zss_cons (zs_set (i := 1) sc.nd (ze_callB (kcall_len (K := K) rfl) cs_len (by rfl) B.len PySem.boot_len (za_cons (zv 0) za_nil)))
    (zss_cons (zs_set (i := 2) sc.nd (ze_callB (kcall_sorted (K := K) rfl) cs_sorted (by rfl) B.sorted (by decide +kernel) (za_cons (ze_lc (own := [("x", 5)]) (k := .frz) rfl rfl sc.nd (zi_range1 (by rfl) B.range (za_cons (zv 1) za_nil)) (by first | exact blkOk_by (N := N__law_signs) (sc := defScope (topS 27)) (by decide +kernel) | exact blkOk_by (by with_unfolding_all rfl)) (fun _ _ _ _ _ => (zg_name (i := 5) sc.nd)) (fun _ _ _ _ _ => zts_nil) (fun _ _ _ _ _ => (ze_tup (za_cons (ze_callB (kcall_len (K := K) rfl) cs_len (by rfl) B.len PySem.boot_len (za_cons (ze_lc (own := [("y", 6)]) (k := .frz) rfl rfl sc.nd (zi_range1 (by rfl) B.range (za_cons (zv 1) za_nil)) (by first | exact blkOk_by (N := N__law_signs) (sc := defScope (topS 27)) (by decide +kernel) | exact blkOk_by (by with_unfolding_all rfl)) (fun _ _ _ _ _ => (zg_name (i := 6) sc.nd)) (fun _ _ _ _ _ => (zts_one (kzt_tru (K := K) rfl (kze_ix (K := K) rfl (kze_ix (K := K) rfl (zv 0) (zv 6)) (zv 5))))) (fun _ _ _ _ _ => (zv 6))) za_nil)) (za_cons (zv 5) za_nil))))) za_nil)))
    (zss_cons (zs_set (i := 3) sc.nd (ze_op zo_mulC (ze_lst (za_cons ze_int za_nil)) (zv 1)))
    (zss_cons (zs_for (passes_of rfl) rfl (kzi_src (K := K) rfl (zv 2)) (zg_tupK (K := K) rfl rfl (zgs_cons (zg_name (i := 4) sc.nd) (zgs_cons (zg_name (i := 5) sc.nd) zgs_nil))) (zss_one (zs_put (zv 3) (zv 5) (ze_op zo_sub ze_int (ze_callB (kcall_sum (K := K) rfl rfl) cs_sum (by rfl) B.sum (by decide +kernel) (za_cons (ze_lc (own := [("y", 6)]) (k := .frz) rfl rfl sc.nd (zi_range1 (by rfl) B.range (za_cons (zv 1) za_nil)) (by first | exact blkOk_by (N := N__law_signs) (sc := defScope (topS 27)) (by decide +kernel) | exact blkOk_by (by with_unfolding_all rfl)) (fun _ _ _ _ _ => (zg_name (i := 6) sc.nd)) (fun _ _ _ _ _ => (zts_one (kzt_tru (K := K) rfl (kze_ix (K := K) rfl (kze_ix (K := K) rfl (zv 0) (zv 6)) (zv 5))))) (fun _ _ _ _ _ => (kze_ix (K := K) rfl (zv 3) (zv 6)))) za_nil))))))
    (zss_one (zs_ret (zv 3)))))))⟩
theorem sc__law_ways : FnScope N__law_ways ["up"] (defScope (topS 28)) := ⟨rfl, rfl, rfl, by decide +kernel, rfl, by decide +kernel, by decide +kernel⟩
theorem fz__law_ways {f : Addr} {fd : FuncData} (B : Bi mg) (G : Gc mg)  (gm : mg "_law_ways" = some (.ref f)) (hF : Fun K "_law_ways" "_law_ways" (topS 28) f fd) (hb : Binds K fd ["up"] []) : FZ P w K mg base 1 "_law_ways" (topS 28) ["up"] F__law_ways := by
  have sc := sc__law_ways
  refine fz_of (run := run__law_ways) 0 gm hF sc hb (fun cdv A outer s H E hr => ?_) (fun ds S0 _ => impl_of ds S0)
  have tk := takes_of (X := cxOf (L2.CX P w) P w K mg base N__law_ways "_law_ways" (defScope (topS 28)) f cdv A outer s H E) rfl rfl rfl rfl
  exact ⟨_, (zss_cons (zs_set (i := 1) sc.nd (ze_callB (kcall_len (K := K) rfl) cs_len (by rfl) B.len PySem.boot_len (za_cons (zv 0) za_nil)))
    (zss_cons (zs_set (i := 2) sc.nd (ze_callB (kcall_sorted (K := K) rfl) cs_sorted (by rfl) B.sorted (by decide +kernel) (za_cons (ze_lc (own := [("x", 5)]) (k := .frz) rfl rfl sc.nd (zi_range1 (by rfl) B.range (za_cons (zv 1) za_nil)) (by first | exact blkOk_by (N := N__law_ways) (sc := defScope (topS 28)) (by decide +kernel) | exact blkOk_by (by with_unfolding_all rfl)) (fun _ _ _ _ _ => (zg_name (i := 5) sc.nd)) (fun _ _ _ _ _ => zts_nil) (fun _ _ _ _ _ => (ze_tup (za_cons (ze_callB (kcall_len (K := K) rfl) cs_len (by rfl) B.len PySem.boot_len (za_cons (ze_lc (own := [("y", 6)]) (k := .frz) rfl rfl sc.nd (zi_range1 (by rfl) B.range (za_cons (zv 1) za_nil)) (by first | exact blkOk_by (N := N__law_ways) (sc := defScope (topS 28)) (by decide +kernel) | exact blkOk_by (by with_unfolding_all rfl)) (fun _ _ _ _ _ => (zg_name (i := 6) sc.nd)) (fun _ _ _ _ _ => (zts_one (kzt_tru (K := K) rfl (kze_ix (K := K) rfl (kze_ix (K := K) rfl (zv 0) (zv 6)) (zv 5))))) (fun _ _ _ _ _ => (zv 6))) za_nil)) (za_cons (zv 5) za_nil))))) za_nil)))
    (zss_cons (zs_set (i := 3) sc.nd (ze_op zo_mulC (ze_lst (za_cons ze_int za_nil)) (zv 1)))
    (zss_cons (zs_for (passes_of rfl) rfl (kzi_src (K := K) rfl (zv 2)) (zg_tupK (K := K) rfl rfl (zgs_cons (zg_name (i := 4) sc.nd) (zgs_cons (zg_name (i := 5) sc.nd) zgs_nil))) (zss_one (zs_put (zv 3) (zv 5) (ze_op (kzo_add (K := K) rfl) ze_int (ze_callB (kcall_sum (K := K) rfl rfl) cs_sum (by rfl) B.sum (by decide +kernel) (za_cons (ze_lc (own := [("y", 6)]) (k := .frz) rfl rfl sc.nd (zi_range1 (by rfl) B.range (za_cons (zv 1) za_nil)) (by first | exact blkOk_by (N := N__law_ways) (sc := defScope (topS 28)) (by decide +kernel) | exact blkOk_by (by with_unfolding_all rfl)) (fun _ _ _ _ _ => (zg_name (i := 6) sc.nd)) (fun _ _ _ _ _ => (zts_one (kzt_tru (K := K) rfl (kze_ix (K := K) rfl (kze_ix (K := K) rfl (zv 0) (zv 6)) (zv 5))))) (fun _ _ _ _ _ => (kze_ix (K := K) rfl (zv 3) (zv 6)))) za_nil))))))
    (zss_one (zs_ret (ze_callB (kcall_sum (K := K) rfl rfl) cs_sum (by rfl) B.sum (by decide +kernel) (za_cons (zv 3) za_nil))))))))⟩
theorem sc__law_first : FnScope N__law_first ["up", "many"] (defScope (topS 29)) := ⟨rfl, rfl, rfl, by decide +kernel, rfl, by decide +kernel, by decide +kernel⟩
theorem fz__law_first {f : Addr} {fd : FuncData} (B : Bi mg) (G : Gc mg)  (gm : mg "_law_first" = some (.ref f)) (hF : Fun K "_law_first" "_law_first" (topS 29) f fd) (hb : Binds K fd ["up", "many"] []) : FZ P w K mg base 1 "_law_first" (topS 29) ["up", "many"] F__law_first := by
  have sc := sc__law_first
  refine fz_of (run := run__law_first) 0 gm hF sc hb (fun cdv A outer s H E hr => ?_) (fun ds S0 _ => impl_of ds S0)
  have tk := takes_of (X := cxOf (L2.CX P w) P w K mg base N__law_first "_law_first" (defScope (topS 29)) f cdv A outer s H E) rfl rfl rfl rfl
  exact ⟨_, (zss_one (zs_ret (ze_lc (own := [("row", 2)]) (k := .frz) rfl rfl sc.nd (kzi_src (K := K) rfl (kze_sl (K := K) rfl (zv 0) zp_none (zp_some (zv 1)))) (by first | exact blkOk_by (N := N__law_first) (sc := defScope (topS 29)) (by decide +kernel) | exact blkOk_by (by with_unfolding_all rfl)) (fun _ _ _ _ _ => (zg_name (i := 2) sc.nd)) (fun _ _ _ _ _ => zts_nil) (fun _ _ _ _ _ => (kze_sl (K := K) rfl (zv 2) zp_none (zp_some (zv 1)))))))⟩
theorem sc__law_product : FnScope N__law_product ["one", "other"] (defScope (topS 30)) := ⟨rfl, rfl, rfl, by decide +kernel, rfl, by decide +kernel, by decide +kernel⟩
theorem fz__law_product {f : Addr} {fd : FuncData} (B : Bi mg) (G : Gc mg)  (gm : mg "_law_product" = some (.ref f)) (hF : Fun K "_law_product" "_law_product" (topS 30) f fd) (hb : Binds K fd ["one", "other"] []) : FZ P w K mg base 1 "_law_product" (topS 30) ["one", "other"] F__law_product := by
  have sc := sc__law_product
  refine fz_of (run := run__law_product) 1 gm hF sc hb (fun cdv A outer s H E hr => ?_) (fun ds S0 _ => impl_of ds S0)
  have tk := takes_of (X := cxOf (L2.CX P w) P w K mg base N__law_product "_law_product" (defScope (topS 30)) f cdv A outer s H E) rfl rfl rfl rfl
  exact ⟨_, (zss_cons (zs_set (i := 2) sc.nd (ze_lst za_nil))
    (zss_cons (zs_for (passes_of rfl) rfl (zi_range1 (by rfl) B.range (za_cons (ze_callB (kcall_len (K := K) rfl) cs_len (by rfl) B.len PySem.boot_len (za_cons (zv 0) za_nil)) za_nil)) (zg_name (i := 3) sc.nd) (zss_one (zs_set (i := 2) sc.nd (ze_op (kzo_add (K := K) rfl) (zv 2) (ze_lc (own := [("q", 5)]) (k := .frz) rfl rfl sc.nd (zi_range1 (by rfl) B.range (za_cons (ze_callB (kcall_len (K := K) rfl) cs_len (by rfl) B.len PySem.boot_len (za_cons (zv 1) za_nil)) za_nil)) (by first | exact blkOk_by (N := N__law_product) (sc := defScope (topS 30)) (by decide +kernel) | exact blkOk_by (by with_unfolding_all rfl)) (fun _ _ _ _ _ => (zg_name (i := 5) sc.nd)) (fun _ _ _ _ _ => zts_nil) (fun _ _ _ _ _ => (ze_tup (za_cons (zv 3) (za_cons (zv 5) za_nil)))))))))
    (zss_cons (zs_set (i := 4) sc.nd (ze_lstC za_nil))
    (zss_cons (zs_for (passes_of rfl) rfl (kzi_src (K := K) rfl (zv 2)) (zg_tupK (K := K) rfl rfl (zgs_cons (zg_name (i := 3) sc.nd) (zgs_cons (zg_name (i := 5) sc.nd) zgs_nil))) (zss_one (zs_expr (kze_methL (K := K) rfl PySem.F.slot_list_append PySem.F.type_list_append mt_append ms_append (zv 4) (za_cons (ze_lc (own := [("p", 6)]) (k := .frz) rfl rfl sc.nd (kzi_src (K := K) rfl (zv 2)) (by first | exact blkOk_by (N := N__law_product) (sc := defScope (topS 30)) (by decide +kernel) | exact blkOk_by (by with_unfolding_all rfl)) (fun _ _ _ _ _ => (zg_name (i := 6) sc.nd)) (fun _ _ _ _ _ => zts_nil) (fun _ _ _ _ _ => (ze_and (ze_or (ze_cmp (kzo_eq (K := K) rfl hr) (zv 3) (kze_ix (K := K) rfl (zv 6) ze_int)) (ze_one (kze_ix (K := K) rfl (kze_ix (K := K) rfl (zv 0) (zv 3)) (kze_ix (K := K) rfl (zv 6) ze_int)))) (ze_and (ze_or (ze_cmp (kzo_eq (K := K) rfl hr) (zv 5) (kze_ix (K := K) rfl (zv 6) ze_int)) (ze_one (kze_ix (K := K) rfl (kze_ix (K := K) rfl (zv 1) (zv 5)) (kze_ix (K := K) rfl (zv 6) ze_int)))) (ze_one (ze_cmp (kzo_ne (K := K) rfl hr) (zv 6) (ze_tup (za_cons (zv 3) (za_cons (zv 5) za_nil))))))))) za_nil)))))
    (zss_one (zs_ret (zv 4)))))))⟩
theorem sc__law_counts : FnScope N__law_counts ["up"] (defScope (topS 31)) := ⟨rfl, rfl, rfl, by decide +kernel, rfl, by decide +kernel, by decide +kernel⟩
theorem fz__law_counts {f : Addr} {fd : FuncData} (B : Bi mg) (G : Gc mg)  (gm : mg "_law_counts" = some (.ref f)) (hF : Fun K "_law_counts" "_law_counts" (topS 31) f fd) (hb : Binds K fd ["up"] []) : FZ P w K mg base 1 "_law_counts" (topS 31) ["up"] F__law_counts := by
  have sc := sc__law_counts
  refine fz_of (run := run__law_counts) 1 gm hF sc hb (fun cdv A outer s H E hr => ?_) (fun ds S0 _ => impl_of ds S0)
  have tk := takes_of (X := cxOf (L2.CX P w) P w K mg base N__law_counts "_law_counts" (defScope (topS 31)) f cdv A outer s H E) rfl rfl rfl rfl
  exact ⟨_, (zss_cons (zs_set (i := 1) sc.nd (ze_callB (kcall_len (K := K) rfl) cs_len (by rfl) B.len PySem.boot_len (za_cons (zv 0) za_nil)))
    (zss_cons (zs_set (i := 2) sc.nd (ze_op zo_mul (ze_lst (za_cons ze_int za_nil)) (zv 1)))
    (zss_cons (zs_set (i := 3) sc.nd (ze_lstC za_nil))
    (zss_cons (zs_for (passes_of rfl) rfl (zi_range1 (by rfl) B.range (za_cons (zv 1) za_nil)) (zg_name (i := 4) sc.nd) (zss_cons (zs_if (zt_cmp (kzo_eq (K := K) rfl hr) (ze_callB (kcall_sum (K := K) rfl rfl) cs_sum (by rfl) B.sum (by decide +kernel) (za_cons (zv 2) za_nil)) ze_int) (zss_one zs_break) zss_nil)
    (zss_cons (zs_expr (kze_methL (K := K) rfl PySem.F.slot_list_append PySem.F.type_list_append mt_append ms_append (zv 3) (za_cons (ze_callB (kcall_sum (K := K) rfl rfl) cs_sum (by rfl) B.sum (by decide +kernel) (za_cons (zv 2) za_nil)) za_nil)))
    (zss_one (zs_set (i := 2) sc.nd (ze_lc (own := [("x", 5)]) (k := .frz) rfl rfl sc.nd (zi_range1 (by rfl) B.range (za_cons (zv 1) za_nil)) (by first | exact blkOk_by (N := N__law_counts) (sc := defScope (topS 31)) (by decide +kernel) | exact blkOk_by (by with_unfolding_all rfl)) (fun _ _ _ _ _ => (zg_name (i := 5) sc.nd)) (fun _ _ _ _ _ => zts_nil) (fun _ _ _ _ _ => (ze_callB (kcall_sum (K := K) rfl rfl) cs_sum (by rfl) B.sum (by decide +kernel) (za_cons (ze_lc (own := [("y", 6)]) (k := .frz) rfl rfl sc.nd (zi_range1 (by rfl) B.range (za_cons (zv 1) za_nil)) (by first | exact blkOk_by (N := N__law_counts) (sc := defScope (topS 31)) (by decide +kernel) | exact blkOk_by (by with_unfolding_all rfl)) (fun _ _ _ _ _ => (zg_name (i := 6) sc.nd)) (fun _ _ _ _ _ => (zts_one (kzt_tru (K := K) rfl (kze_ix (K := K) rfl (kze_ix (K := K) rfl (zv 0) (zv 6)) (zv 5))))) (fun _ _ _ _ _ => (kze_ix (K := K) rfl (zv 2) (zv 6)))) za_nil)))))))))
    (zss_one (zs_ret (zv 3)))))))⟩
theorem sc__law_added : FnScope N__law_added ["one", "other"] (defScope (topS 32)) := ⟨rfl, rfl, rfl, by decide +kernel, rfl, by decide +kernel, by decide +kernel⟩
theorem fz__law_added {f : Addr} {fd : FuncData} (B : Bi mg) (G : Gc mg)  (gm : mg "_law_added" = some (.ref f)) (hF : Fun K "_law_added" "_law_added" (topS 32) f fd) (hb : Binds K fd ["one", "other"] []) : FZ P w K mg base 1 "_law_added" (topS 32) ["one", "other"] F__law_added := by
  have sc := sc__law_added
  refine fz_of (run := run__law_added) 0 gm hF sc hb (fun cdv A outer s H E hr => ?_) (fun ds S0 _ => impl_of ds S0)
  have tk := takes_of (X := cxOf (L2.CX P w) P w K mg base N__law_added "_law_added" (defScope (topS 32)) f cdv A outer s H E) rfl rfl rfl rfl
  exact ⟨_, (zss_cons (zs_set (i := 2) sc.nd (ze_callB (call_max2 rfl) cs_max2 (by rfl) B.max (by decide +kernel) (za_cons (ze_callB (kcall_len (K := K) rfl) cs_len (by rfl) B.len PySem.boot_len (za_cons (zv 0) za_nil)) (za_cons (ze_callB (kcall_len (K := K) rfl) cs_len (by rfl) B.len PySem.boot_len (za_cons (zv 1) za_nil)) za_nil))))
    (zss_cons (zs_set (i := 3) sc.nd (ze_op (kzo_add (K := K) rfl) (zv 0) (ze_op zo_mul (ze_lst (za_cons ze_int za_nil)) (ze_op zo_sub (zv 2) (ze_callB (kcall_len (K := K) rfl) cs_len (by rfl) B.len PySem.boot_len (za_cons (zv 0) za_nil))))))
    (zss_cons (zs_set (i := 4) sc.nd (ze_op (kzo_add (K := K) rfl) (zv 1) (ze_op zo_mul (ze_lst (za_cons ze_int za_nil)) (ze_op zo_sub (zv 2) (ze_callB (kcall_len (K := K) rfl) cs_len (by rfl) B.len PySem.boot_len (za_cons (zv 1) za_nil))))))
    (zss_one (zs_ret (ze_callT (kcall_tuple (K := K) rfl) kcs_tuple (by rfl) B.tuple (by decide +kernel) (za_cons (ze_lc (own := [("k", 5)]) (k := .frz) rfl rfl sc.nd (zi_range1 (by rfl) B.range (za_cons (zv 2) za_nil)) (by first | exact blkOk_by (N := N__law_added) (sc := defScope (topS 32)) (by decide +kernel) | exact blkOk_by (by with_unfolding_all rfl)) (fun _ _ _ _ _ => (zg_name (i := 5) sc.nd)) (fun _ _ _ _ _ => zts_nil) (fun _ _ _ _ _ => (ze_op (kzo_add (K := K) rfl) (kze_ix (K := K) rfl (zv 3) (zv 5)) (kze_ix (K := K) rfl (zv 4) (zv 5))))) za_nil)))))))⟩
theorem sc_bits_of : FnScope N_bits_of ["mask"] (defScope (topS 5)) := ⟨rfl, rfl, rfl, by decide +kernel, rfl, by decide +kernel, by decide +kernel⟩
theorem fz_bits_of {f : Addr} {fd : FuncData} (B : Bi mg) (G : Gc mg) (h_lowest_bit : FZ P w K mg base 1 "lowest_bit" (topS 4) ["mask"] F_lowest_bit) (gm : mg "bits_of" = some (.ref f)) (hF : Fun K "bits_of" "bits_of" (topS 5) f fd) (hb : Binds K fd ["mask"] []) : FZ P w K mg base 2 "bits_of" (topS 5) ["mask"] F_bits_of := by
  have sc := sc_bits_of
  refine fz_of (run := run_bits_of) 1 gm hF sc hb (fun cdv A outer s H E hr => ?_) (fun ds S0 _ => impl_of ds S0)
  have tk := takes_of (X := cxOf (L2.CX P w) P w K mg base N_bits_of "bits_of" (defScope (topS 5)) f cdv A outer s H E) rfl rfl rfl rfl
  exact ⟨_, (zss_cons (zs_set (i := 1) sc.nd (ze_lstC za_nil))
    (zss_cons (zs_while (N := (fun _ _ => 100000)) (passes_of rfl) (kzt_tru (K := K) rfl (zv 0)) (zss_cons (zs_set (i := 2) sc.nd (kze_call (K := K) (mg := mg) rfl rfl rfl h_lowest_bit (hr.mono (by decide)) (by rfl) tk (za_cons (zv 0) za_nil)))
    (zss_cons (zs_expr (kze_methL (K := K) rfl PySem.F.slot_list_append PySem.F.type_list_append mt_append ms_append (zv 1) (za_cons (zv 2) za_nil)))
    (zss_one (zs_aug (k := 0) sc.nd (ze_op zo_shl ze_int (zv 2)) zi_xor)))))
    (zss_one (zs_ret (zv 1)))))⟩
theorem sc__law_draw : FnScope N__law_draw ["tape", "many"] (defScope (topS 21)) := ⟨rfl, rfl, rfl, by decide +kernel, rfl, by decide +kernel, by decide +kernel⟩
theorem fz__law_draw {f : Addr} {fd : FuncData} (B : Bi mg) (G : Gc mg) (h__law_load : FZ P w K mg base 1 "_law_load" (topS 20) ["tape"] F__law_load) (gm : mg "_law_draw" = some (.ref f)) (hF : Fun K "_law_draw" "_law_draw" (topS 21) f fd) (hb : Binds K fd ["tape", "many"] []) : FZ P w K mg base 2 "_law_draw" (topS 21) ["tape", "many"] F__law_draw := by
  have sc := sc__law_draw
  refine fz_of (run := run__law_draw) 0 gm hF sc hb (fun cdv A outer s H E hr => ?_) (fun ds S0 _ => impl_of ds S0)
  have tk := takes_of (X := cxOf (L2.CX P w) P w K mg base N__law_draw "_law_draw" (defScope (topS 21)) f cdv A outer s H E) rfl rfl rfl rfl
  exact ⟨_, (zss_cons (zs_if (zt_cmp zo_lt (zv 1) ze_int) (zss_one (zs_ret ze_int)) zss_nil)
    (zss_cons (zs_for (passes_of rfl) rfl (zi_range1 (by rfl) B.range (za_cons ze_int za_nil)) (zg_name (i := 2) sc.nd) (zss_cons (zs_if (ZW.zt (zw_and (zt_cmp zo_gt (ze_dget hr (zv 0) ze_str) ze_int) (zw_and1 (zt_cmp zo_gt (ze_dget hr (zv 0) ze_str) ze_int)))) (zss_cons (zs_set (i := 3) sc.nd (ze_op zo_mod (ze_callT call_int1 cs_int (by rfl) B.int boot_int (za_cons (ze_dget hr (zv 0) ze_str) za_nil)) (zv 1)))
    (zss_cons (zs_dput hr (zv 0) ze_str (ze_op zo_sub (ze_dget hr (zv 0) ze_str) ze_int))
    (zss_cons (zs_dput hr (zv 0) ze_str (ze_op zo_div (ze_dget hr (zv 0) ze_str) (zv 1)))
    (zss_one (zs_ret (zv 3)))))) zss_nil)
    (zss_cons (zs_if (ZW.zt (zw_or (zt_cmp zo_gt (ze_dget hr (zv 0) ze_str) ze_int) (zw_or1 (zt_cmp zo_ge (ze_dget hr (zv 0) ze_str) (ze_callB (kcall_len (K := K) rfl) cs_len (by rfl) B.len PySem.boot_len (za_cons (ze_dget hr (zv 0) ze_str) za_nil)))))) (zss_one zs_break) zss_nil)
    (zss_one (zs_expr (kze_call (K := K) (mg := mg) rfl rfl rfl h__law_load (hr.mono (by decide)) (by rfl) tk (za_cons (zv 0) za_nil)))))))
    (zss_cons (zs_if (zt_cmp zo_gt (ze_dget hr (zv 0) ze_str) ze_int) (zss_one (zs_dput hr (zv 0) ze_str (ze_op zo_sub (ze_dget hr (zv 0) ze_str) ze_int))) zss_nil)
    (zss_cons (zs_dput hr (zv 0) ze_str (ze_op zo_mod (ze_callT call_int1 cs_int (by rfl) B.int boot_int (za_cons (ze_op (kzo_add (K := K) rfl) (ze_op zo_mul (ze_dget hr (zv 0) ze_str) ze_int) ze_int) za_nil)) ze_int))
    (zss_one (zs_ret (ze_op zo_mod (ze_op zo_mod (ze_callT call_int1 cs_int (by rfl) B.int boot_int (za_cons (ze_op (kzo_add (K := K) rfl) (ze_op zo_mul (ze_op zo_div (ze_dget hr (zv 0) ze_str) ze_int) ze_int) ze_int) za_nil)) ze_int) (zv 1))))))))⟩
theorem sc__check_size : FnScope N__check_size ["n"] (defScope (topS 11)) := ⟨rfl, rfl, rfl, by decide +kernel, rfl, by decide +kernel, by decide +kernel⟩
theorem fz__check_size {f : Addr} {fd : FuncData} (B : Bi mg) (G : Gc mg)  (gm : mg "_check_size" = some (.ref f)) (hF : Fun K "_check_size" "_check_size" (topS 11) f fd) (hb : Binds K fd ["n"] []) : FZ P w K mg base 3 "_check_size" (topS 11) ["n"] F__check_size := by
  have sc := sc__check_size
  refine fz_of (run := run__check_size) 0 gm hF sc hb (fun cdv A outer s H E hr => ?_) (fun ds S0 _ => impl_of ds S0)
  have tk := takes_of (X := cxOf (L2.CX P w) P w K mg base N__check_size "_check_size" (defScope (topS 11)) f cdv A outer s H E) rfl rfl rfl rfl
  exact ⟨_, (zss_one (zs_if (zt_cmp zo_gt (zv 0) (ze_const (by rfl) G.MOST_POINTS)) (zss_one zs_never) zss_nil))⟩
theorem sc_chain_counts : FnScope N_chain_counts ["order"] (defScope (topS 16)) := ⟨rfl, rfl, rfl, by decide +kernel, rfl, by decide +kernel, by decide +kernel⟩
theorem fz_chain_counts {f : Addr} {fd : FuncData} (B : Bi mg) (G : Gc mg) (h_masks_below : FZ P w K mg base 1 "masks_below" (topS 7) ["order"] F_masks_below) (h_bits_of : FZ P w K mg base 2 "bits_of" (topS 5) ["mask"] F_bits_of) (gm : mg "chain_counts" = some (.ref f)) (hF : Fun K "chain_counts" "chain_counts" (topS 16) f fd) (hb : Binds K fd ["order"] []) : FZ P w K mg base 3 "chain_counts" (topS 16) ["order"] F_chain_counts := by
  have sc := sc_chain_counts
  refine fz_of (run := run_chain_counts) 0 gm hF sc hb (fun cdv A outer s H E hr => ?_) (fun ds S0 _ => impl_of ds S0)
  have tk := takes_of (X := cxOf (L2.CX P w) P w K mg base N_chain_counts "chain_counts" (defScope (topS 16)) f cdv A outer s H E) rfl rfl rfl rfl
  exact ⟨_, (zss_cons (zs_setLc (own := [("mask", 4)]) (k := .frz) (i := 1) rfl rfl sc.nd rfl rfl (sw_true rfl rfl rfl (by decide +kernel)) (kzi_src (K := K) rfl (kze_call (K := K) (mg := mg) rfl rfl rfl h_masks_below (hr.mono (by decide)) (by rfl) tk (za_cons (zv 0) za_nil))) (by first | exact blkOk_by (N := N_chain_counts) (sc := defScope (topS 16)) (by decide +kernel) | exact blkOk_by (by with_unfolding_all rfl)) (fun _ _ _ _ _ => (zg_name (i := 4) sc.nd)) (fun _ _ _ _ _ => zts_nil) (fun _ _ _ _ _ => (kze_call (K := K) (mg := mg) rfl rfl rfl h_bits_of (hr.mono (by decide)) (by rfl) takes0 (za_cons (zv 4) za_nil))))
    (zss_cons (zs_set (i := 2) sc.nd (ze_lstC za_nil))
    (zss_cons (zs_set (i := 3) sc.nd (ze_op zo_mul (ze_lst (za_cons ze_int za_nil)) (kze_ix (K := K) rfl (zv 0) ze_int)))
    (zss_cons (zs_while (N := (fun _ _ => 100000)) (passes_of rfl) (kzt_tru (K := K) rfl (ze_callB (cr_anyI (K := K) rfl rfl) cs_anyI (by rfl) B.any (by decide +kernel) (za_cons (zv 3) za_nil))) (zss_cons (zs_expr (kze_methL (K := K) rfl PySem.F.slot_list_append PySem.F.type_list_append mt_append ms_append (zv 2) (za_cons (ze_callB (kcall_sum (K := K) rfl rfl) cs_sum (by rfl) B.sum (by decide +kernel) (za_cons (zv 3) za_nil)) za_nil)))
    (zss_one (zs_set (i := 3) sc.nd (ze_lc (own := [("points", 5)]) (k := .frz) rfl rfl sc.nd (kzi_src (K := K) rfl (zv 1)) (by first | exact blkOk_by (N := N_chain_counts) (sc := defScope (topS 16)) (by decide +kernel) | exact blkOk_by (by with_unfolding_all rfl)) (fun _ _ _ _ _ => (zg_name (i := 5) sc.nd)) (fun _ _ _ _ _ => zts_nil) (fun _ _ _ _ _ => (ze_callB (kcall_sum (K := K) rfl rfl) cs_sum (by rfl) B.sum (by decide +kernel) (za_cons (ze_lc (own := [("x", 6)]) (k := .frz) rfl rfl sc.nd (kzi_src (K := K) rfl (zv 5)) (by first | exact blkOk_by (N := N_chain_counts) (sc := defScope (topS 16)) (by decide +kernel) | exact blkOk_by (by with_unfolding_all rfl)) (fun _ _ _ _ _ => (zg_name (i := 6) sc.nd)) (fun _ _ _ _ _ => zts_nil) (fun _ _ _ _ _ => (kze_ix (K := K) rfl (zv 3) (zv 6)))) za_nil))))))))
    (zss_one (zs_ret (ze_callT (kcall_tuple (K := K) rfl) kcs_tuple (by rfl) B.tuple (by decide +kernel) (za_cons (zv 2) za_nil))))))))⟩
theorem sc__law_shuffled : FnScope N__law_shuffled ["tape", "many"] (defScope (topS 23)) := ⟨rfl, rfl, rfl, by decide +kernel, rfl, by decide +kernel, by decide +kernel⟩
theorem fz__law_shuffled {f : Addr} {fd : FuncData} (B : Bi mg) (G : Gc mg) (h__law_draw : FZ P w K mg base 2 "_law_draw" (topS 21) ["tape", "many"] F__law_draw) (gm : mg "_law_shuffled" = some (.ref f)) (hF : Fun K "_law_shuffled" "_law_shuffled" (topS 23) f fd) (hb : Binds K fd ["tape", "many"] []) : FZ P w K mg base 3 "_law_shuffled" (topS 23) ["tape", "many"] F__law_shuffled := by
  have sc := sc__law_shuffled
  refine fz_of (run := run__law_shuffled) 0 gm hF sc hb (fun cdv A outer s H E hr => ?_) (fun ds S0 _ => impl_of ds S0)
  have tk := takes_of (X := cxOf (L2.CX P w) P w K mg base N__law_shuffled "_law_shuffled" (defScope (topS 23)) f cdv A outer s H E) rfl rfl rfl rfl
  exact ⟨_, (zss_cons (zs_set (i := 2) sc.nd (ze_listRg (k := .cel) (by exact fun z => nomatch z) rfl (by rfl) B.list (by rfl) B.range (zv 1)))
    (zss_one (zs_ret (ze_lc (own := [("k", 3)]) (k := .frz) rfl rfl sc.nd (zi_range1 (by rfl) B.range (za_cons (ze_callB (kcall_len (K := K) rfl) cs_len (by rfl) B.len PySem.boot_len (za_cons (zv 2) za_nil)) za_nil)) (by first | exact blkOk_by (N := N__law_shuffled) (sc := defScope (topS 23)) (by decide +kernel) | exact blkOk_by (by with_unfolding_all rfl)) (fun _ _ _ _ _ => (zg_name (i := 3) sc.nd)) (fun _ _ _ _ _ => zts_nil) (fun _ _ _ _ _ => (kze_methL (K := K) rfl PySem.F.slot_list_pop PySem.F.type_list_pop mt_popAt ms_popAt (zv 2) (za_cons (kze_call (K := K) (mg := mg) rfl rfl rfl h__law_draw (hr.mono (by decide)) (by rfl) takes0 (za_cons (zv 0) (za_cons (ze_callB (kcall_len (K := K) rfl) cs_len (by rfl) B.len PySem.boot_len (za_cons (zv 2) za_nil)) za_nil))) za_nil)))))))⟩
theorem sc__law_drawn : FnScope N__law_drawn ["tape", "most"] (defScope (topS 25)) := ⟨rfl, rfl, rfl, by decide +kernel, rfl, by decide +kernel, by decide +kernel⟩
theorem fz__law_drawn {f : Addr} {fd : FuncData} (B : Bi mg) (G : Gc mg) (h__law_draw : FZ P w K mg base 2 "_law_draw" (topS 21) ["tape", "many"] F__law_draw) (h__law_closed : FZ P w K mg base 1 "_law_closed" (topS 24) ["many", "links"] F__law_closed) (gm : mg "_law_drawn" = some (.ref f)) (hF : Fun K "_law_drawn" "_law_drawn" (topS 25) f fd) (hb : Binds K fd ["tape", "most"] []) : FZ P w K mg base 3 "_law_drawn" (topS 25) ["tape", "most"] F__law_drawn := by
  have sc := sc__law_drawn
  refine fz_of (run := run__law_drawn) 0 gm hF sc hb (fun cdv A outer s H E hr => ?_) (fun ds S0 _ => impl_of ds S0)
  have tk := takes_of (X := cxOf (L2.CX P w) P w K mg base N__law_drawn "_law_drawn" (defScope (topS 25)) f cdv A outer s H E) rfl rfl rfl rfl
  exact ⟨_, (zss_cons (zs_set (i := 2) sc.nd (kze_call (K := K) (mg := mg) rfl rfl rfl h__law_draw (hr.mono (by decide)) (by rfl) tk (za_cons (zv 0) (za_cons (ze_op (kzo_add (K := K) rfl) (zv 1) ze_int) za_nil))))
    (zss_cons (zs_set (i := 3) sc.nd (kze_call (K := K) (mg := mg) rfl rfl rfl h__law_draw (hr.mono (by decide)) (by rfl) tk (za_cons (zv 0) (za_cons ze_int za_nil))))
    (zss_cons (zs_set (i := 4) sc.nd (ze_lstC za_nil))
    (zss_cons (zs_if (zt_cmp (kzo_eq (K := K) rfl hr) (zv 3) ze_int) (zss_cons (zs_set (i := 8) sc.nd (ze_op zo_div (zv 2) ze_int))
    (zss_cons (zs_for (passes_of rfl) rfl (zi_range1 (by rfl) B.range (za_cons (zv 8) za_nil)) (zg_name (i := 9) sc.nd) (zss_one (zs_set (i := 4) sc.nd (ze_op (kzo_add (K := K) rfl) (zv 4) (ze_lst (za_cons (ze_tup (za_cons (zv 9) (za_cons (ze_op (kzo_add (K := K) rfl) (zv 8) (zv 9)) za_nil))) (za_cons (ze_tup (za_cons (ze_op zo_mod (ze_callT call_int1 cs_int (by rfl) B.int boot_int (za_cons (ze_op (kzo_add (K := K) rfl) (zv 9) ze_int) za_nil)) (zv 8)) (za_cons (ze_op (kzo_add (K := K) rfl) (zv 8) (zv 9)) za_nil))) za_nil)))))))
    (zss_one (zs_ret (kze_call (K := K) (mg := mg) rfl rfl rfl h__law_closed (hr.mono (by decide)) (by rfl) tk (za_cons (zv 2) (za_cons (zv 4) za_nil))))))) zss_nil)
    (zss_cons (zs_set (i := 5) sc.nd (ze_op (kzo_add (K := K) rfl) ze_int (kze_call (K := K) (mg := mg) rfl rfl rfl h__law_draw (hr.mono (by decide)) (by rfl) tk (za_cons (zv 0) (za_cons ze_int za_nil)))))
    (zss_cons (zs_set (i := 6) sc.nd (ze_op zo_mul (ze_lst (za_cons ze_int za_nil)) (zv 2)))
    (zss_cons (zs_if (zt_cmp (kzo_eq (K := K) rfl hr) (zv 3) ze_int) (zss_one (zs_setLc (own := [("k", 9)]) (k := .frz) (i := 6) rfl rfl sc.nd rfl rfl (sw_true rfl rfl rfl (by decide +kernel)) (zi_range1 (by rfl) B.range (za_cons (zv 2) za_nil)) (by first | exact blkOk_by (N := N__law_drawn) (sc := defScope (topS 25)) (by decide +kernel) | exact blkOk_by (by with_unfolding_all rfl)) (fun _ _ _ _ _ => (zg_name (i := 9) sc.nd)) (fun _ _ _ _ _ => zts_nil) (fun _ _ _ _ _ => (kze_call (K := K) (mg := mg) rfl rfl rfl h__law_draw (hr.mono (by decide)) (by rfl) takes0 (za_cons (zv 0) (za_cons ze_int za_nil)))))) zss_nil)
    (zss_cons (zs_for (passes_of rfl) rfl (zi_range1 (by rfl) B.range (za_cons (zv 2) za_nil)) (zg_name (i := 7) sc.nd) (zss_one (zs_for (passes_of rfl) rfl (zi_range2 (by rfl) B.range (za_cons (ze_op (kzo_add (K := K) rfl) (zv 7) ze_int) (za_cons (zv 2) za_nil))) (zg_name (i := 10) sc.nd) (zss_cons (zs_if (ZW.zt (zw_and (zt_cmp (kzo_eq (K := K) rfl hr) (zv 3) ze_int) (zw_and (zt_cmp zo_lt (kze_ix (K := K) rfl (zv 6) (zv 7)) (kze_ix (K := K) rfl (zv 6) (zv 10))) (zw_and1 (zt_cmp zo_gt (kze_call (K := K) (mg := mg) rfl rfl rfl h__law_draw (hr.mono (by decide)) (by rfl) tk (za_cons (zv 0) (za_cons ze_int za_nil))) ze_int))))) (zss_one (zs_expr (kze_methL (K := K) rfl PySem.F.slot_list_append PySem.F.type_list_append mt_append ms_append (zv 4) (za_cons (ze_tup (za_cons (zv 7) (za_cons (zv 10) za_nil))) za_nil)))) zss_nil)
    (zss_one (zs_if (ZW.zt (zw_and (zt_cmp zo_lt (zv 3) ze_int) (zw_and1 (zt_cmp (kzo_eq (K := K) rfl hr) (kze_call (K := K) (mg := mg) rfl rfl rfl h__law_draw (hr.mono (by decide)) (by rfl) tk (za_cons (zv 0) (za_cons (zv 5) za_nil))) ze_int)))) (zss_one (zs_expr (kze_methL (K := K) rfl PySem.F.slot_list_append PySem.F.type_list_append mt_append ms_append (zv 4) (za_cons (ze_tup (za_cons (zv 7) (za_cons (zv 10) za_nil))) za_nil)))) zss_nil))))))
    (zss_one (zs_ret (kze_call (K := K) (mg := mg) rfl rfl rfl h__law_closed (hr.mono (by decide)) (by rfl) tk (za_cons (zv 2) (za_cons (zv 4) za_nil)))))))))))))⟩
theorem sc_product : FnScope N_product ["first", "second"] (defScope (topS 14)) := ⟨rfl, rfl, rfl, by decide +kernel, rfl, by decide +kernel, by decide +kernel⟩
theorem fz_product {f : Addr} {fd : FuncData} (B : Bi mg) (G : Gc mg) (h__check_size : FZ P w K mg base 3 "_check_size" (topS 11) ["n"] F__check_size) (h_with_selves : FZ P w K mg base 1 "with_selves" (topS 8) ["masks"] F_with_selves) (h_masks_above : FZ P w K mg base 1 "masks_above" (topS 6) ["order"] F_masks_above) (gm : mg "product" = some (.ref f)) (hF : Fun K "product" "product" (topS 14) f fd) (hb : Binds K fd ["first", "second"] []) : FZ P w K mg base 4 "product" (topS 14) ["first", "second"] F_product := by
  have sc := sc_product
  refine fz_of (run := run_product) 0 gm hF sc hb (fun cdv A outer s H E hr => ?_) (fun ds S0 _ => impl_of ds S0)
  have tk := takes_of (X := cxOf (L2.CX P w) P w K mg base N_product "product" (defScope (topS 14)) f cdv A outer s H E) rfl rfl rfl rfl
  exact ⟨_, (zss_cons (zs_set (i := 2) sc.nd (kze_ix (K := K) rfl (zv 0) ze_int))
    (zss_cons (zs_set (i := 3) sc.nd (kze_ix (K := K) rfl (zv 1) ze_int))
    (zss_cons (zs_expr (kze_call (K := K) (mg := mg) rfl rfl rfl h__check_size (hr.mono (by decide)) (by rfl) tk (za_cons (ze_op zo_mul (zv 2) (zv 3)) za_nil)))
    (zss_cons (zs_set (i := 4) sc.nd (kze_call (K := K) (mg := mg) rfl rfl rfl h_with_selves (hr.mono (by decide)) (by rfl) tk (za_cons (kze_call (K := K) (mg := mg) rfl rfl rfl h_masks_above (hr.mono (by decide)) (by rfl) tk (za_cons (zv 0) za_nil)) za_nil)))
    (zss_cons (zs_set (i := 5) sc.nd (kze_call (K := K) (mg := mg) rfl rfl rfl h_with_selves (hr.mono (by decide)) (by rfl) tk (za_cons (kze_call (K := K) (mg := mg) rfl rfl rfl h_masks_above (hr.mono (by decide)) (by rfl) tk (za_cons (zv 1) za_nil)) za_nil)))
    (zss_cons (zs_set (i := 6) sc.nd (ze_lc2 (own := [("x", 8), ("q", 9)]) (k := .frz) (vs1 := [9]) rfl rfl sc.nd (zi_range1 (by rfl) B.range (za_cons (zv 2) za_nil)) (by first | exact blkOk_by (N := N_product) (sc := defScope (topS 14)) (by decide +kernel) | exact blkOk_by (by with_unfolding_all rfl)) (by decide) (fun _ _ _ _ _ => (zg_name (i := 8) sc.nd)) (fun _ _ _ _ _ => zts_nil) (fun _ _ _ _ _ => (zi_range1 (by rfl) B.range (za_cons (zv 3) za_nil))) (fun _ _ _ _ _ => (zg_name (i := 9) sc.nd)) (fun _ _ _ _ _ => zts_nil) (fun _ _ _ _ _ => (ze_tup (za_cons (zv 8) (za_cons (zv 9) za_nil))))))
    (zss_cons (zs_setLc2 (own := [("x", 8), ("q", 9), ("y", 10), ("r", 11)]) (k := .frz) (i := 7) (vs1 := [10, 11]) rfl rfl sc.nd rfl rfl (sw_true rfl rfl rfl (by decide +kernel)) (kzi_src (K := K) rfl (zv 6)) (by first | exact blkOk_by (N := N_product) (sc := defScope (topS 14)) (by decide +kernel) | exact blkOk_by (by with_unfolding_all rfl)) (by decide) (fun _ _ _ _ _ => (zg_tupK (K := K) rfl rfl (zgs_cons (zg_name (i := 8) sc.nd) (zgs_cons (zg_name (i := 9) sc.nd) zgs_nil)))) (fun _ _ _ _ _ => zts_nil) (fun _ _ _ _ _ => (kzi_src (K := K) rfl (zv 6))) (fun _ _ _ _ _ => (zg_tupK (K := K) rfl rfl (zgs_cons (zg_name (i := 10) sc.nd) (zgs_cons (zg_name (i := 11) sc.nd) zgs_nil)))) (fun _ _ _ _ _ => (zts_one (ZW.zt (zw_and (zt_cmp (kzo_ne (K := K) rfl hr) (ze_tup (za_cons (zv 8) (za_cons (zv 9) za_nil))) (ze_tup (za_cons (zv 10) (za_cons (zv 11) za_nil)))) (zw_and (kzt_tru (K := K) rfl (ze_op zo_and (ze_op zo_shr (kze_ix (K := K) rfl (zv 4) (zv 8)) (zv 10)) ze_int)) (zw_and1 (kzt_tru (K := K) rfl (ze_op zo_and (ze_op zo_shr (kze_ix (K := K) rfl (zv 5) (zv 9)) (zv 11)) ze_int)))))))) (fun _ _ _ _ _ => (ze_tup (za_cons (ze_op (kzo_add (K := K) rfl) (ze_op zo_mul (zv 8) (zv 3)) (zv 9)) (za_cons (ze_op (kzo_add (K := K) rfl) (ze_op zo_mul (zv 10) (zv 3)) (zv 11)) za_nil)))))
    (zss_one (zs_ret (ze_tup (za_cons (ze_op zo_mul (zv 2) (zv 3)) (za_cons (ze_callT (kcall_tuple (K := K) rfl) kcs_tuple (by rfl) B.tuple (by decide +kernel) (za_cons (zv 7) za_nil)) za_nil))))))))))))⟩
theorem sc_euler : FnScope N_euler ["order"] (defScope (topS 17)) := ⟨rfl, rfl, rfl, by decide +kernel, rfl, by decide +kernel, by decide +kernel⟩
theorem fz_euler {f : Addr} {fd : FuncData} (B : Bi mg) (G : Gc mg) (h_chain_counts : FZ P w K mg base 3 "chain_counts" (topS 16) ["order"] F_chain_counts) (gm : mg "euler" = some (.ref f)) (hF : Fun K "euler" "euler" (topS 17) f fd) (hb : Binds K fd ["order"] []) : FZ P w K mg base 4 "euler" (topS 17) ["order"] F_euler := by
  have sc := sc_euler
  refine fz_of (run := run_euler) 0 gm hF sc hb (fun cdv A outer s H E hr => ?_) (fun ds S0 _ => impl_of ds S0)
  have tk := takes_of (X := cxOf (L2.CX P w) P w K mg base N_euler "euler" (defScope (topS 17)) f cdv A outer s H E) rfl rfl rfl rfl
  exact ⟨_, (zss_cons (zs_set (i := 1) sc.nd (kze_call (K := K) (mg := mg) rfl rfl rfl h_chain_counts (hr.mono (by decide)) (by rfl) tk (za_cons (zv 0) za_nil)))
    (zss_one (zs_ret (ze_op zo_sub (ze_callB (cr_sumT (K := K) rfl rfl) cs_sumT (by rfl) B.sum (by decide +kernel) (za_cons (kze_step2a (K := K) rfl (zv 1)) za_nil)) (ze_callB (cr_sumT (K := K) rfl rfl) cs_sumT (by rfl) B.sum (by decide +kernel) (za_cons (kze_step2b (K := K) rfl (zv 1)) za_nil))))))⟩
theorem sc__moved : FnScope N__moved ["order", "by"] (defScope (topS 13)) := ⟨rfl, rfl, rfl, by decide +kernel, rfl, by decide +kernel, by decide +kernel⟩
theorem fz__moved {f : Addr} {fd : FuncData} (B : Bi mg) (G : Gc mg) {c Pt : Addr} (TB : GxR.TabB base mg c Pt) (hP : Pt ∈ Tabs.ad) (hcode : fd.code = .ref c)  (gm : mg "_moved" = some (.ref f)) (hF : Fun K "_moved" "_moved" (topS 13) f fd) (hb : Binds K fd ["order", "by"] []) : FZ P w K mg base 8 "_moved" (topS 13) ["order", "by"] F__moved := by
  have sc := sc__moved
  refine fz_ofT (run := run__moved) 0 gm hF hcode sc hb (fun A outer s H E hr => ?_) (fun ds S0 _ => impl_of ds S0)
  have tk := takes_of (X := cxOf (L2.CX P w) P w K mg base N__moved "_moved" (defScope (topS 13)) f (.ref c) A outer s H E) rfl rfl rfl rfl
  exact ⟨_, (zss_one (zs_ret (ze_tupG (c := c) (P := Pt) (own := [("x", 2), ("y", 3)]) (k := 0) rfl TB hP rfl rfl sc.nd hr (by decide) (by rfl) B.tuple (kzi_src (K := K) rfl (kze_ix (K := K) rfl (zv 0) ze_int)) (by first | exact blkOk_by (N := N__moved) (sc := defScope (topS 13)) (by decide +kernel) | exact blkOk_by (by with_unfolding_all rfl)) (fun _ _ _ _ _ _ _ hr => (zg_tupK (K := K) rfl rfl (zgs_cons (zg_name (i := 2) sc.nd) (zgs_cons (zg_name (i := 3) sc.nd) zgs_nil)))) (fun _ _ _ _ _ _ _ hr => zts_nil) (fun _ _ _ _ _ _ _ hr => (ze_tup (za_cons (ze_op (kzo_add (K := K) rfl) (zv 2) (zv 1)) (za_cons (ze_op (kzo_add (K := K) rfl) (zv 3) (zv 1)) za_nil)))))))⟩
theorem sc__law_same : FnScope N__law_same ["actual", "due"] (defScope (topS 22)) := ⟨rfl, rfl, rfl, by decide +kernel, rfl, by decide +kernel, by decide +kernel⟩
theorem fz__law_same {f : Addr} {fd : FuncData} (B : Bi mg) (G : Gc mg)  (gm : mg "_law_same" = some (.ref f)) (hF : Fun K "_law_same" "_law_same" (topS 22) f fd) (hb : Binds K fd ["actual", "due"] []) : ∀ k : Nat, FZ P w K mg base (0 + k) "_law_same" (topS 22) ["actual", "due"] (F__law_same k)
  | 0 => (fz_stk gm hF hb).mono (by omega)
  | k + 1 => by
    have sc := sc__law_same
    have h__law_same := fz__law_same B G  gm hF hb k
    refine fz_of (k := 0 + k) (run := run__law_same (F__law_same k)) 0 gm hF sc hb (fun cdv A outer s H E hr => ?_) (fun ds S0 _ => impl_of ds S0)
    have tk := takes_of (X := cxOf (L2.CX P w) P w K mg base N__law_same "_law_same" (defScope (topS 22)) f cdv A outer s H E) rfl rfl rfl rfl
    exact ⟨_, (zss_cons (zs_if (kzt_tru (K := K) rfl (kze_isi (K := K) (T := "tuple") rfl (by rfl) B.isinstance B.tuple (by decide +kernel) (zv 1))) (zss_cons (zs_if (ZW.zt (zw_or (zt_not (kzt_tru (K := K) rfl (kze_isi (K := K) (T := "tuple") rfl (by rfl) B.isinstance B.tuple (by decide +kernel) (zv 0)))) (zw_or1 (zt_cmp (kzo_ne (K := K) rfl hr) (ze_callB (kcall_len (K := K) rfl) cs_len (by rfl) B.len PySem.boot_len (za_cons (zv 0) za_nil)) (ze_callB (kcall_len (K := K) rfl) cs_len (by rfl) B.len PySem.boot_len (za_cons (zv 1) za_nil)))))) (zss_one (zs_ret ze_bl)) zss_nil)
      (zss_cons (zs_for (passes_of rfl) rfl (zi_range1 (by rfl) B.range (za_cons (ze_callB (kcall_len (K := K) rfl) cs_len (by rfl) B.len PySem.boot_len (za_cons (zv 1) za_nil)) za_nil)) (zg_name (i := 2) sc.nd) (zss_one (zs_if (zt_not (kzt_tru (K := K) rfl (kze_call (K := K) (mg := mg) rfl rfl rfl h__law_same hr (by rfl) tk (za_cons (kze_ix (K := K) rfl (zv 0) (zv 2)) (za_cons (kze_ix (K := K) rfl (zv 1) (zv 2)) za_nil))))) (zss_one (zs_ret ze_bl)) zss_nil)))
      (zss_one (zs_ret ze_bl)))) zss_nil)
      (zss_one (zs_ret (ze_and (kze_isi (K := K) (T := "int") rfl (by rfl) B.isinstance B.int (by decide +kernel) (zv 0)) (ze_and (ze_not (kze_isi (K := K) (T := "bool") rfl (by rfl) B.isinstance B.bool (by decide +kernel) (zv 0))) (ze_one (ze_cmp (kzo_eq (K := K) rfl hr) (zv 0) (zv 1))))))))⟩
theorem sc_beside : FnScope N_beside ["first", "second"] (defScope (topS 12)) := ⟨rfl, rfl, rfl, by decide +kernel, rfl, by decide +kernel, by decide +kernel⟩
theorem fz_beside {f : Addr} {fd : FuncData} (B : Bi mg) (G : Gc mg) (h__check_size : FZ P w K mg base 3 "_check_size" (topS 11) ["n"] F__check_size) (h__moved : FZ P w K mg base 8 "_moved" (topS 13) ["order", "by"] F__moved) (gm : mg "beside" = some (.ref f)) (hF : Fun K "beside" "beside" (topS 12) f fd) (hb : Binds K fd ["first", "second"] []) : FZ P w K mg base 9 "beside" (topS 12) ["first", "second"] F_beside := by
  have sc := sc_beside
  refine fz_of (run := run_beside) 0 gm hF sc hb (fun cdv A outer s H E hr => ?_) (fun ds S0 _ => impl_of ds S0)
  have tk := takes_of (X := cxOf (L2.CX P w) P w K mg base N_beside "beside" (defScope (topS 12)) f cdv A outer s H E) rfl rfl rfl rfl
  exact ⟨_, (zss_cons (zs_set (i := 2) sc.nd (ze_op (kzo_add (K := K) rfl) (kze_ix (K := K) rfl (zv 0) ze_int) (kze_ix (K := K) rfl (zv 1) ze_int)))
    (zss_cons (zs_expr (kze_call (K := K) (mg := mg) rfl rfl rfl h__check_size (hr.mono (by decide)) (by rfl) tk (za_cons (zv 2) za_nil)))
    (zss_one (zs_ret (ze_tup (za_cons (zv 2) (za_cons (ze_op (kzo_add (K := K) rfl) (kze_ix (K := K) rfl (zv 0) ze_int) (kze_call (K := K) (mg := mg) rfl rfl rfl h__moved (hr.mono (by decide)) (by rfl) tk (za_cons (zv 1) (za_cons (kze_ix (K := K) rfl (zv 0) ze_int) za_nil)))) za_nil)))))))⟩
theorem sc_law : FnScope N_law ["script"] (defScope (topS 33)) := ⟨rfl, rfl, rfl, by decide +kernel, rfl, by decide +kernel, by decide +kernel⟩
theorem fz_law {f : Addr} {fd : FuncData} (B : Bi mg) (G : Gc mg) (h__law_tape : FZ P w K mg base 1 "_law_tape" (topS 19) ["script"] F__law_tape) (h__law_drawn : FZ P w K mg base 3 "_law_drawn" (topS 25) ["tape", "most"] F__law_drawn) (h__law_ways : FZ P w K mg base 1 "_law_ways" (topS 28) ["up"] F__law_ways) (h__law_product : FZ P w K mg base 1 "_law_product" (topS 30) ["one", "other"] F__law_product) (h__law_first : FZ P w K mg base 1 "_law_first" (topS 29) ["up", "many"] F__law_first) (h__law_told : FZ P w K mg base 1 "_law_told" (topS 26) ["up", "names"] F__law_told) (h__law_shuffled : FZ P w K mg base 3 "_law_shuffled" (topS 23) ["tape", "many"] F__law_shuffled) (h__law_signs : FZ P w K mg base 1 "_law_signs" (topS 27) ["up"] F__law_signs) (h__law_same : FZ P w K mg base 8 "_law_same" (topS 22) ["actual", "due"] (F__law_same 8)) (h_euler : FZ P w K mg base 4 "euler" (topS 17) ["order"] F_euler) (h_beside : FZ P w K mg base 9 "beside" (topS 12) ["first", "second"] F_beside) (h_product : FZ P w K mg base 4 "product" (topS 14) ["first", "second"] F_product) (h__law_added : FZ P w K mg base 1 "_law_added" (topS 32) ["one", "other"] F__law_added) (h__law_counts : FZ P w K mg base 1 "_law_counts" (topS 31) ["up"] F__law_counts) (h_chain_counts : FZ P w K mg base 3 "chain_counts" (topS 16) ["order"] F_chain_counts) (gm : mg "law" = some (.ref f)) (hF : Fun K "law" "law" (topS 33) f fd) (hb : Binds K fd ["script"] []) : FZ P w K mg base 10 "law" (topS 33) ["script"] F_law := by
  have sc := sc_law
  refine fz_of (run := run_law) 0 gm hF sc hb (fun cdv A outer s H E hr => ?_) (fun ds S0 _ => impl_of ds S0)
  have tk := takes_of (X := cxOf (L2.CX P w) P w K mg base N_law "law" (defScope (topS 33)) f cdv A outer s H E) rfl rfl rfl rfl
  exact ⟨_, (zss_cons (zs_set (i := 1) sc.nd (kze_call (K := K) (mg := mg) rfl rfl rfl h__law_tape (hr.mono (by decide)) (by rfl) tk (za_cons (zv 0) za_nil)))
    (zss_cons (zs_set (i := 2) sc.nd (kze_call (K := K) (mg := mg) rfl rfl rfl h__law_drawn (hr.mono (by decide)) (by rfl) tk (za_cons (zv 1) (za_cons ze_int za_nil))))
    (zss_cons (zs_set (i := 3) sc.nd (kze_call (K := K) (mg := mg) rfl rfl rfl h__law_drawn (hr.mono (by decide)) (by rfl) tk (za_cons (zv 1) (za_cons ze_int za_nil))))
    (zss_cons (zs_for (passes_of rfl) rfl (zi_range1 (by rfl) B.range (za_cons ze_int za_nil)) (zg_name (i := 4) sc.nd) (zss_cons (zs_if (zt_cmp zo_le (kze_call (K := K) (mg := mg) rfl rfl rfl h__law_ways (hr.mono (by decide)) (by rfl) tk (za_cons (kze_call (K := K) (mg := mg) rfl rfl rfl h__law_product (hr.mono (by decide)) (by rfl) tk (za_cons (zv 2) (za_cons (zv 3) za_nil))) za_nil)) ze_int) (zss_one zs_break) zss_nil)
    (zss_cons (zs_set (i := 2) sc.nd (kze_call (K := K) (mg := mg) rfl rfl rfl h__law_first (hr.mono (by decide)) (by rfl) tk (za_cons (zv 2) (za_cons (ze_op zo_div (ze_callB (kcall_len (K := K) rfl) cs_len (by rfl) B.len PySem.boot_len (za_cons (zv 2) za_nil)) ze_int) za_nil))))
    (zss_one (zs_par (i := 2) (j := 3) rfl sc.nd (za_cons (zv 3) (za_cons (zv 2) za_nil)))))))
    (zss_cons (zs_set (i := 5) sc.nd (kze_call (K := K) (mg := mg) rfl rfl rfl h__law_told (hr.mono (by decide)) (by rfl) tk (za_cons (zv 2) (za_cons (kze_call (K := K) (mg := mg) rfl rfl rfl h__law_shuffled (hr.mono (by decide)) (by rfl) tk (za_cons (zv 1) (za_cons (ze_callB (kcall_len (K := K) rfl) cs_len (by rfl) B.len PySem.boot_len (za_cons (zv 2) za_nil)) za_nil))) za_nil))))
    (zss_cons (zs_set (i := 6) sc.nd (kze_call (K := K) (mg := mg) rfl rfl rfl h__law_told (hr.mono (by decide)) (by rfl) tk (za_cons (zv 3) (za_cons (kze_call (K := K) (mg := mg) rfl rfl rfl h__law_shuffled (hr.mono (by decide)) (by rfl) tk (za_cons (zv 1) (za_cons (ze_callB (kcall_len (K := K) rfl) cs_len (by rfl) B.len PySem.boot_len (za_cons (zv 3) za_nil)) za_nil))) za_nil))))
    (zss_cons (zs_set (i := 7) sc.nd (ze_callB (kcall_sum (K := K) rfl rfl) cs_sum (by rfl) B.sum (by decide +kernel) (za_cons (kze_call (K := K) (mg := mg) rfl rfl rfl h__law_signs (hr.mono (by decide)) (by rfl) tk (za_cons (zv 2) za_nil)) za_nil)))
    (zss_cons (zs_set (i := 8) sc.nd (ze_callB (kcall_sum (K := K) rfl rfl) cs_sum (by rfl) B.sum (by decide +kernel) (za_cons (kze_call (K := K) (mg := mg) rfl rfl rfl h__law_signs (hr.mono (by decide)) (by rfl) tk (za_cons (zv 3) za_nil)) za_nil)))
    (zss_cons (zs_for (passes_of rfl) rfl (kzi_src (K := K) rfl (ze_lst (za_cons (ze_tup (za_cons (zv 5) (za_cons (zv 6) za_nil))) (za_cons (ze_tup (za_cons (zv 6) (za_cons (zv 5) za_nil))) za_nil)))) (zg_tupK (K := K) rfl rfl (zgs_cons (zg_name (i := 11) sc.nd) (zgs_cons (zg_name (i := 12) sc.nd) zgs_nil))) (zss_cons (zs_if (zt_not (kzt_tru (K := K) rfl (kze_call (K := K) (mg := mg) rfl rfl rfl h__law_same (hr.mono (by decide)) (by rfl) tk (za_cons (kze_call (K := K) (mg := mg) rfl rfl rfl h_euler (hr.mono (by decide)) (by rfl) tk (za_cons (kze_call (K := K) (mg := mg) rfl rfl rfl h_beside (hr.mono (by decide)) (by rfl) tk (za_cons (zv 11) (za_cons (zv 12) za_nil))) za_nil)) (za_cons (ze_op (kzo_add (K := K) rfl) (zv 7) (zv 8)) za_nil))))) (zss_one (zs_ret ze_bl)) zss_nil)
    (zss_one (zs_if (zt_not (kzt_tru (K := K) rfl (kze_call (K := K) (mg := mg) rfl rfl rfl h__law_same (hr.mono (by decide)) (by rfl) tk (za_cons (kze_callK0 (K := K) (mg := mg) (pm := [0]) (ks := ["order"]) rfl rfl rfl h_euler (hr.mono (by decide)) (by rfl) tk (fun _ _ _ _ _ _ us ws h1 h2 => match us, ws, h1, h2 with | [], [_], _, _ => rfl) (zk_cons (kze_callK0 (K := K) (mg := mg) (pm := [1, 0]) (ks := ["second", "first"]) rfl rfl rfl h_product (hr.mono (by decide)) (by rfl) tk (fun _ _ _ _ _ _ us ws h1 h2 => match us, ws, h1, h2 with | [], [_, _], _, _ => rfl) (zk_cons (zv 12) (zk_cons (zv 11) zk_nil))) zk_nil)) (za_cons (ze_op zo_mul (zv 7) (zv 8)) za_nil))))) (zss_one (zs_ret ze_bl)) zss_nil))))
    (zss_cons (zs_set (i := 9) sc.nd (kze_call (K := K) (mg := mg) rfl rfl rfl h__law_product (hr.mono (by decide)) (by rfl) tk (za_cons (zv 2) (za_cons (zv 3) za_nil))))
    (zss_cons (zs_set (i := 10) sc.nd (kze_call (K := K) (mg := mg) rfl rfl rfl h__law_told (hr.mono (by decide)) (by rfl) tk (za_cons (zv 9) (za_cons (kze_call (K := K) (mg := mg) rfl rfl rfl h__law_shuffled (hr.mono (by decide)) (by rfl) tk (za_cons (zv 1) (za_cons (ze_callB (kcall_len (K := K) rfl) cs_len (by rfl) B.len PySem.boot_len (za_cons (zv 9) za_nil)) za_nil))) za_nil))))
    (zss_cons (zs_if (zt_not (kzt_tru (K := K) rfl (kze_call (K := K) (mg := mg) rfl rfl rfl h__law_same (hr.mono (by decide)) (by rfl) tk (za_cons (kze_call (K := K) (mg := mg) rfl rfl rfl h_euler (hr.mono (by decide)) (by rfl) tk (za_cons (zv 10) za_nil)) (za_cons (ze_op zo_mul (zv 7) (zv 8)) za_nil))))) (zss_one (zs_ret ze_bl)) zss_nil)
    (zss_cons (zs_if (ZW.zt (zw_or (zt_not (kzt_tru (K := K) rfl (kze_call (K := K) (mg := mg) rfl rfl rfl h__law_same (hr.mono (by decide)) (by rfl) tk (za_cons (kze_call (K := K) (mg := mg) rfl rfl rfl h_euler (hr.mono (by decide)) (by rfl) tk (za_cons (zv 5) za_nil)) (za_cons (zv 7) za_nil))))) (zw_or1 (zt_not (kzt_tru (K := K) rfl (kze_call (K := K) (mg := mg) rfl rfl rfl h__law_same (hr.mono (by decide)) (by rfl) tk (za_cons (kze_call (K := K) (mg := mg) rfl rfl rfl h_euler (hr.mono (by decide)) (by rfl) tk (za_cons (zv 6) za_nil)) (za_cons (zv 8) za_nil)))))))) (zss_one (zs_ret ze_bl)) zss_nil)
    (zss_one (zs_ret (kze_call (K := K) (mg := mg) rfl rfl rfl h__law_same (hr.mono (by decide)) (by rfl) tk (za_cons (kze_call (K := K) (mg := mg) rfl rfl rfl h_chain_counts (hr.mono (by decide)) (by rfl) tk (za_cons (kze_call (K := K) (mg := mg) rfl rfl rfl h_beside (hr.mono (by decide)) (by rfl) tk (za_cons (zv 5) (za_cons (zv 6) za_nil))) za_nil)) (za_cons (kze_call (K := K) (mg := mg) rfl rfl rfl h__law_added (hr.mono (by decide)) (by rfl) tk (za_cons (kze_call (K := K) (mg := mg) rfl rfl rfl h__law_counts (hr.mono (by decide)) (by rfl) tk (za_cons (zv 2) za_nil)) (za_cons (kze_call (K := K) (mg := mg) rfl rfl rfl h__law_counts (hr.mono (by decide)) (by rfl) tk (za_cons (zv 3) za_nil)) za_nil))) za_nil))))))))))))))))))⟩
end
end K58.K56

namespace K58.K56
open PySem L2 Z V K06 K07 K58
open PySem.Spec PyProof.Rows
variable [Tabs]
set_option synthInstance.maxHeartbeats 0
set_option synthInstance.maxSize 1000000
local macro_rules | `(tactic| decreasing_trivial_pre_omega) => `(tactic| first
  | ((with_reducible refine ix_less ?_ ?_); omega)
  | ((with_reducible refine ix_rowB ?_ ?_); omega)
  | (with_reducible refine len_less ?_)
  | (with_reducible refine E1.imp ?_)
  | ((with_reducible refine rng1_n ?_ ?_); omega)
  | ((with_reducible refine rng2_n ?_ ?_ ?_); omega; omega)
  | ((with_reducible refine o_subN ?_ ?_); omega)
  | ((with_reducible refine o_mulN ?_ ?_); omega)
  | ((with_reducible refine o_divN ?_ ?_ ?_); omega; omega)
  | ((with_reducible refine o_modN ?_ ?_); omega)
  | ((with_reducible refine o_shl1 ?_ ?_); omega)
  | ((with_reducible refine ix_rngL ?_ ?_); omega)
  | ((with_reducible refine ix_tab ?_ ?_); omega)
  | ((with_reducible refine ix_mapL ?_ ?_); omega)
  | ((with_reducible refine ix_mapT ?_ ?_); omega)
  | ((with_reducible refine o_modIN ?_ ?_); omega)
  | ((with_reducible refine o_divIN ?_ ?_ ?_); omega; omega)
  | ((with_reducible refine o_mulIN ?_ ?_); omega)
  | ((with_reducible refine o_mulNI ?_ ?_); omega)
  | ((with_reducible refine o_mulNN ?_ ?_); omega)
  | ((with_reducible refine o_mul1 ?_ ?_); omega)
  | ((with_reducible refine o_mulC ?_ ?_); omega)
  | ((with_reducible refine br_dt ?_ ?_); omega)
  | ((with_reducible refine br_df ?_ ?_); omega)
  | ((with_reducible refine o_addT ?_ ?_); (focus (simp [bigN]; done)))
  | ((with_reducible refine o_addL ?_ ?_); (focus (simp [bigN]; done)))
  | ((with_reducible refine br_dt ?_ ?_); exact rfl)
  | ((with_reducible refine br_df ?_ ?_); exact Bool.false_ne_true)
  | ((with_reducible refine br_df ?_ ?_); exact (fun h => Bool.false_ne_true h.symm))
  | ((with_reducible refine w_xis_t ?_ ?_); decide +kernel)
  | ((with_reducible refine w_xis_f ?_ ?_); decide +kernel)
  | ((with_reducible refine w_xf1 ?_ ?_); decide +kernel)
  | ((with_reducible refine tryq_t ?_ ?_ ?_); (focus (simp; done)); decide +kernel; dsimp only [List.set])
  | ((with_reducible refine tryq_f ?_ ?_ ?_); (focus (simp; done)); decide +kernel))
section
variable {n : Nat} {r : Nat → Nat → Bool} {l : List Nat} {S : Sto} {R : XV → Sto → Prop} {Q : D → Sto → Prop}
/-- 1 less the numbers below -/
def Wg (n : Nat) (r : Nat → Nat → Bool) (h : Nat → Int) : Prop := ∀ x, x < n → h x = 1 - sI (List.range n) fun y => if r y x = true then h y else 0
/-- the points in the sequence of how many are below -/
theorem ranked_ok (hU : Up n r) {ps : List (Nat × Nat)} (e2 : ps.Perm ((List.range n).map fun x => (cntB n r x, x))) (e3 : ps.Pairwise fun p q => p = q ∨ Z.lexLt p q) : Rkd n r (ps.map (·.2)) := by
  have hps : ∀ p ∈ ps, p.2 < n ∧ p.1 = cntB n r p.2 := fun p hp => by
    obtain ⟨x, hx, rfl⟩ := List.mem_map.mp (e2.mem_iff.mp hp)
    exact ⟨List.mem_range.mp hx, rfl⟩
  refine ⟨?_, List.pairwise_map.mpr (e3.imp_of_mem fun {a b} ha hb h => ?_)⟩
  · have := e2.map (·.2)
    rw [List.map_map] at this
    exact this.trans (by rw [show ((fun p : Nat × Nat => p.2) ∘ fun x => (cntB n r x, x)) = id from rfl, List.map_id])
  · cases q : r b.2 a.2 with
    | false => rfl
    | true =>
      have h1 := cnt_lt hU q
      have h2 := (hps a ha).2
      have h3 := (hps b hb).2
      rcases h with rfl | h
      · omega
      · have h : a.1 < b.1 ∨ a.1 = b.1 ∧ a.2 < b.2 := h
        omega
theorem b_sumZ {l : List Int} (k : Q (.int l.sum) S) : W (dSum [.lst (l.map D.int)] S) R Q := by
  refine w_ok (a := .int l.sum) (S := S) ?_ k
  unfold dSum
  simp only [seqOf, Option.bind_some, intsOf_map]
theorem wg_at {h : Nat → Int} {x : Nat} (hU : Up n r) {ls : List Nat} (hR : Rkd n r ls) {k : Nat} (hk : k < ls.length) (hx : ls[k] = x) {f : Nat → Int} (hf : ∀ y ∈ ls.take k, f y = h y) : sI (List.range n) (fun y => if r y x = true then f y else 0) = sI (List.range n) fun y => if r y x = true then h y else 0 := by
  refine sI_cg fun y hy => ?_
  by_cases q : r y x = true
  · rw [if_pos q, if_pos q]
    have hm : y ∈ ls := hR.per.mem_iff.mpr hy
    have e1 : ls = ls.take k ++ x :: ls.drop (k + 1) := by
      rw [← hx, ← List.drop_eq_getElem_cons hk, List.take_append_drop]
    have hord := hR.ord
    rw [e1] at hm hord
    rcases (List.mem_append.mp hm) with h1 | h1
    · exact hf y h1
    · rcases (List.mem_cons.mp h1) with rfl | h1
      · have := hU.lt y y q; omega
      · have := (List.pairwise_cons.mp (List.pairwise_append.mp hord).2.1).1 y h1
        rw [q] at this; cases this
  · rw [if_neg q, if_neg q]
theorem w_signs (hn : n ≤ 64) (hU : Up n r) {h : Nat → Int} (hW : Wg n r h) (k : Q (.lst (((List.range n).map h).map D.int)) S) : W (F__law_signs [lessD n r] S) R Q := by
  refine go__law_signs ?_
  obtain ⟨p, hp⟩ : ∃ p, S.length = p := ⟨_, rfl⟩
  (repeat decreasing_trivial_pre_omega)
  refine lc_map (L := List.range n) (mk := dN) (v := fun x => pD (cntB n r x, x)) (by simp [bigN]; omega) (fun x hx => ?_) ?_
  · have hx := List.mem_range.mp hx
    dsimp only [wipeE, List.set]
    (repeat decreasing_trivial_pre_omega)
    refine lc_pure (L := List.range n) (mk := dN) (p := fun y => r y x) (v := dN) (by simp [bigN]; omega) (fun y hy => ?_) ?_
    · have hy := List.mem_range.mp hy
      dsimp only [wipeE, List.set]
      (repeat decreasing_trivial_pre_omega)
      exact ⟨rfl, rfl, fun _ => by (repeat decreasing_trivial_pre_omega); exact ⟨rfl, rfl⟩⟩
    refine w_ok (a := .lst (((List.range n).filter fun y => r y x).map dN)) (S := S) rfl ?_
    (repeat decreasing_trivial_pre_omega)
    exact ⟨rfl, rfl⟩
  refine w_ok (a := .lst (((List.range n).map fun x => (cntB n r x, x)).map pD)) (S := S) (by rw [List.map_map]; rfl) ?_
  (repeat decreasing_trivial_pre_omega)
  refine w_ok (K07.sorted_all _ S) ?_
  obtain ⟨ps, e1, e2, e3⟩ := sort_nat ((List.range n).map fun x => (cntB n r x, x))
  rw [e1]
  have hR := ranked_ok hU e2 e3
  have hlen : ps.length = n := by rw [e2.length_eq]; simp
  have hps : ∀ p ∈ ps, p.2 < n := fun p hp => by
    obtain ⟨x, hx, rfl⟩ := List.mem_map.mp (e2.mem_iff.mp hp)
    exact List.mem_range.mp hx
  (repeat decreasing_trivial_pre_omega)
  rw [hp]
  have e0 : List.replicate n (dN 0) = ((List.range n).map fun _ => (0 : Int)).map D.int := by
    rw [List.map_map]
    show _ = (List.range n).map fun _ => dN 0
    rw [List.map_const', List.length_range]
  rw [e0]
  refine for_n ps (mk := pD) (fun i env T => ∃ x4 x5 f, env = [some (lessD n r), some (dN n), some (.lst (ps.map pD)), some (.ptr p), x4, x5, none] ∧ T = S ++ [.lst (((List.range n).map f).map D.int)] ∧ ∀ y ∈ (ps.map (·.2)).take i, f y = h y) ⟨_, _, fun _ => 0, rfl, rfl, fun y hy => by cases hy⟩ ?_ ?_
  · rintro i hi env T ⟨x4, x5, f, rfl, rfl, hf⟩
    have hx := hps ps[i] (List.getElem_mem hi)
    obtain ⟨x, hxe⟩ : ∃ x, ps[i].2 = x := ⟨_, rfl⟩
    have hi2 : i < (ps.map (·.2)).length := by rw [List.length_map]; exact hi
    have hxx : (ps.map (·.2))[i] = x := by rw [List.getElem_map]; exact hxe
    have hxi : ps[i].2 < n := hx
    (repeat decreasing_trivial_pre_omega)
    refine lc_pure (L := List.range n) (mk := dN) (p := fun y => r y ps[i].2) (v := fun y => D.int (f y)) (by simp [bigN]; omega) (fun y hy => ?_) ?_
    · have hy := List.mem_range.mp hy
      dsimp only [wipeE, List.set]
      (repeat decreasing_trivial_pre_omega)
      refine ⟨rfl, rfl, fun _ => ?_⟩
      (repeat decreasing_trivial_pre_omega)
      refine ix_gen (anyOf_ptr (suf_at0 hp)) (d := .int (f y)) (by rw [List.getElem?_map, List.getElem?_map, List.getElem?_range hy]; rfl) ?_
      exact ⟨rfl, rfl⟩
    rw [show (((List.range n).filter fun y => r y ps[i].2).map fun y => D.int (f y)) = (((List.range n).filter fun y => r y ps[i].2).map f).map D.int by rw [List.map_map]; rfl]
    refine w_ok (a := .lst ((((List.range n).filter fun y => r y ps[i].2).map f).map D.int)) rfl ?_
    (repeat decreasing_trivial_pre_omega)
    refine b_sumZ ?_
    (repeat decreasing_trivial_pre_omega)
    refine put_n (suf_at0 hp) (by simpa using hxi) ?_
    rw [suf_set0 hp]
    have hs : (((List.range n).filter fun y => r y ps[i].2).map f).sum = sI (List.range n) fun y => if r y ps[i].2 = true then h y else 0 := by
      have h1 : (((List.range n).filter fun y => r y ps[i].2).map f).sum = sI (List.range n) fun y => if r y ps[i].2 = true then f y else 0 := by rw [← sI_filter]; rfl
      rw [h1]
      exact wg_at hU hR hi2 (hxx.trans hxe.symm) hf
    have hset : (((List.range n).map f).map D.int).set ps[i].2 (.int (h ps[i].2)) = ((List.range n).map fun y => if y = ps[i].2 then h y else f y).map D.int := by
      refine List.ext_getElem (by simp) fun j g1 g2 => ?_
      rw [List.getElem_set]
      simp only [List.getElem_map, List.getElem_range]
      by_cases q : ps[i].2 = j
      · rw [if_pos q, if_pos q.symm, q]
      · rw [if_neg q, if_neg fun e => q e.symm]
    have hh : ((1 : Nat) : Int) - sI (List.range n) (fun y => if r y ps[i].2 = true then h y else 0) = h ps[i].2 := (hW _ hxi).symm
    rw [hs, hh]
    refine ⟨_, _, fun y => if y = ps[i].2 then h y else f y, rfl, by rw [← hset]; rfl, fun y hy => ?_⟩
    show (if y = ps[i].2 then h y else f y) = h y
    by_cases q : y = ps[i].2
    · rw [if_pos q]
    · rw [if_neg q]
      rw [take_one hi2, hxx, ← hxe] at hy
      rcases (List.mem_append.mp hy) with hy | hy
      · exact hf y hy
      · exact absurd (List.mem_singleton.mp hy) q
  · rintro env T ⟨x4, x5, f, rfl, rfl, hf⟩
    (repeat decreasing_trivial_pre_omega)
    have e : (List.range n).map f = (List.range n).map h := List.map_congr_left fun y hy => hf y (by
      rw [(List.take_of_length_le (by simp))]
      exact hR.per.mem_iff.mpr hy)
    rw [e]
    subst hp
    exact fin_one (cls_map (f := D.int) (fun _ => trivial) _) k
theorem b_sumP {p : Nat} {l : List Nat} (h : S[p]? = some (.lst (l.map dN))) (k : Q (dN l.sum) S) : W (dSum [.ptr p] S) R Q := by
  refine w_ok (a := dN l.sum) (S := S) ?_ k
  unfold dSum
  simp only [seqOf, h, Option.bind_some, intsOf_N]
  rw [← sum_cast]
  rfl
theorem w_ways (hn : n ≤ 64) (k : ∀ i : Nat, Q (dN i) S) : W (F__law_ways [lessD n r] S) R Q := by
  refine go__law_ways ?_
  obtain ⟨p, hp⟩ : ∃ p, S.length = p := ⟨_, rfl⟩
  (repeat decreasing_trivial_pre_omega)
  refine lc_map (L := List.range n) (mk := dN) (v := fun x => pD (cntB n r x, x)) (by simp [bigN]; omega) (fun x hx => ?_) ?_
  · have hx := List.mem_range.mp hx
    dsimp only [wipeE, List.set]
    (repeat decreasing_trivial_pre_omega)
    refine lc_pure (L := List.range n) (mk := dN) (p := fun y => r y x) (v := dN) (by simp [bigN]; omega) (fun y hy => ?_) ?_
    · have hy := List.mem_range.mp hy
      dsimp only [wipeE, List.set]
      (repeat decreasing_trivial_pre_omega)
      exact ⟨rfl, rfl, fun _ => by (repeat decreasing_trivial_pre_omega); exact ⟨rfl, rfl⟩⟩
    refine w_ok (a := .lst (((List.range n).filter fun y => r y x).map dN)) (S := S) rfl ?_
    (repeat decreasing_trivial_pre_omega)
    exact ⟨rfl, rfl⟩
  refine w_ok (a := .lst (((List.range n).map fun x => (cntB n r x, x)).map pD)) (S := S) (by rw [List.map_map]; rfl) ?_
  (repeat decreasing_trivial_pre_omega)
  refine w_ok (K07.sorted_all _ S) ?_
  obtain ⟨ps, e1, e2, e3⟩ := sort_nat ((List.range n).map fun x => (cntB n r x, x))
  rw [e1]
  have hps : ∀ p ∈ ps, p.2 < n := fun p hp => by
    obtain ⟨x, hx, rfl⟩ := List.mem_map.mp (e2.mem_iff.mp hp)
    exact List.mem_range.mp hx
  (repeat decreasing_trivial_pre_omega)
  rw [hp]
  have e0 : List.replicate n (dN 0) = (List.replicate n 0).map dN := by rw [List.map_replicate]
  rw [e0]
  refine for_n ps (mk := pD) (fun i env T => ∃ x4 x5 f, env = [some (lessD n r), some (dN n), some (.lst (ps.map pD)), some (.ptr p), x4, x5, none] ∧ T = S ++ [.lst (f.map dN)] ∧ f.length = n) ⟨_, _, List.replicate n 0, rfl, rfl, by simp⟩ ?_ ?_
  · rintro i hi env T ⟨x4, x5, f, rfl, rfl, hf⟩
    have hx := hps ps[i] (List.getElem_mem hi)
    (repeat decreasing_trivial_pre_omega)
    refine lc_pure (L := List.range n) (mk := dN) (p := fun y => r y ps[i].2) (v := fun y => dN f[y]!) (by simp [bigN]; omega) (fun y hy => ?_) ?_
    · have hy := List.mem_range.mp hy
      dsimp only [wipeE, List.set]
      (repeat decreasing_trivial_pre_omega)
      refine ⟨rfl, rfl, fun _ => ?_⟩
      (repeat decreasing_trivial_pre_omega)
      refine ix_gen (anyOf_ptr (suf_at0 hp)) (d := dN f[y]!) (by rw [List.getElem?_map, List.getElem?_eq_getElem (by omega), getElem!_pos f y (by omega)]; rfl) ?_
      exact ⟨rfl, rfl⟩
    rw [show (((List.range n).filter fun y => r y ps[i].2).map fun y => dN f[y]!) = (((List.range n).filter fun y => r y ps[i].2).map fun y => f[y]!).map dN by rw [List.map_map]; rfl]
    refine w_ok (a := .lst ((((List.range n).filter fun y => r y ps[i].2).map fun y => f[y]!).map dN)) rfl ?_
    (repeat decreasing_trivial_pre_omega)
    refine b_sumN ?_
    (repeat decreasing_trivial_pre_omega)
    refine put_n (suf_at0 hp) (by rw [List.length_map, hf]; exact hx) ?_
    rw [suf_set0 hp]
    exact ⟨_, _, f.set ps[i].2 _, rfl, by rw [List.map_set]; rfl, by simp [hf]⟩
  · rintro env T ⟨x4, x5, f, rfl, rfl, hf⟩
    (repeat decreasing_trivial_pre_omega)
    refine b_sumP (suf_at0 hp) ?_
    exact fin_pL trivial (k _)
end
end K58.K56

namespace K58.K56
open PySem L2 Z V K06 K07 K58
open PySem.Spec PyProof.Rows
variable [Tabs]
set_option synthInstance.maxHeartbeats 0
set_option synthInstance.maxSize 1000000
local macro_rules | `(tactic| decreasing_trivial_pre_omega) => `(tactic| first
  | ((with_reducible refine ix_less ?_ ?_); omega)
  | ((with_reducible refine ix_rowB ?_ ?_); omega)
  | (with_reducible refine len_less ?_)
  | (with_reducible refine E1.imp ?_)
  | ((with_reducible refine rng1_n ?_ ?_); omega)
  | ((with_reducible refine rng2_n ?_ ?_ ?_); omega; omega)
  | ((with_reducible refine o_subN ?_ ?_); omega)
  | ((with_reducible refine o_mulN ?_ ?_); omega)
  | ((with_reducible refine o_divN ?_ ?_ ?_); omega; omega)
  | ((with_reducible refine o_modN ?_ ?_); omega)
  | ((with_reducible refine o_shl1 ?_ ?_); omega)
  | ((with_reducible refine ix_rngL ?_ ?_); omega)
  | ((with_reducible refine ix_tab ?_ ?_); omega)
  | ((with_reducible refine ix_mapL ?_ ?_); omega)
  | ((with_reducible refine ix_mapT ?_ ?_); omega)
  | ((with_reducible refine o_modIN ?_ ?_); omega)
  | ((with_reducible refine o_divIN ?_ ?_ ?_); omega; omega)
  | ((with_reducible refine o_mulIN ?_ ?_); omega)
  | ((with_reducible refine o_mulNI ?_ ?_); omega)
  | ((with_reducible refine o_mulNN ?_ ?_); omega)
  | ((with_reducible refine o_mul1 ?_ ?_); omega)
  | ((with_reducible refine o_mulC ?_ ?_); omega)
  | ((with_reducible refine br_dt ?_ ?_); omega)
  | ((with_reducible refine br_df ?_ ?_); omega)
  | ((with_reducible refine o_addT ?_ ?_); (focus (simp [bigN]; done)))
  | ((with_reducible refine o_addL ?_ ?_); (focus (simp [bigN]; done)))
  | ((with_reducible refine br_dt ?_ ?_); exact rfl)
  | ((with_reducible refine br_df ?_ ?_); exact Bool.false_ne_true)
  | ((with_reducible refine br_df ?_ ?_); exact (fun h => Bool.false_ne_true h.symm))
  | ((with_reducible refine w_xis_t ?_ ?_); decide +kernel)
  | ((with_reducible refine w_xis_f ?_ ?_); decide +kernel)
  | ((with_reducible refine w_xf1 ?_ ?_); decide +kernel)
  | ((with_reducible refine tryq_t ?_ ?_ ?_); (focus (simp; done)); decide +kernel; dsimp only [List.set])
  | ((with_reducible refine tryq_f ?_ ?_ ?_); (focus (simp; done)); decide +kernel))
section
variable {n m : Nat} {r r2 : Nat → Nat → Bool} {l : List Nat} {S : Sto} {R : XV → Sto → Prop} {Q : D → Sto → Prop}
theorem cut_up (l : List D) {v : Nat} : Z.cutD l none (some (v : Int)) = l.take v := by
  unfold Z.cutD
  rw [HT.sIx_none, HT.sIx_nat]
  simp
/-- the first points -/
def restR (m : Nat) (r : Nat → Nat → Bool) (x y : Nat) : Bool := decide (y < m) && r x y
theorem rest_Up (hU : Up n r) : Up m (restR m r) := by
  have hi : ∀ x y, restR m r x y = true ↔ y < m ∧ r x y = true := fun x y => by unfold restR; rw [Bool.and_eq_true, decide_eq_true_eq]
  refine ⟨fun x y hh => ?_, fun x y z h1 h2 => ?_⟩
  · have h := (hi x y).mp hh
    exact ⟨(hU.lt x y h.2).1, h.1⟩
  · rw [hi] at h1 h2 ⊢
    exact ⟨h2.1, hU.tr _ _ _ h1.2 h2.2⟩
theorem w_first (hn : n ≤ 64) (hm : m ≤ n) (k : Q (lessD m (restR m r)) S) : W (F__law_first [lessD n r, dN m] S) R Q := by
  refine go__law_first ?_
  have e : lessD m (restR m r) = .lst ((List.range m).map fun x => D.lst ((rowB n (r x)).take m)) := by
    unfold lessD
    refine congrArg D.lst (List.map_congr_left fun x hx => congrArg D.lst ?_)
    have hx := List.mem_range.mp hx
    unfold rowB
    rw [← List.map_take, List.take_range, Nat.min_eq_left hm]
    refine List.map_congr_left fun y hy => ?_
    unfold restR
    rw [decide_eq_true (List.mem_range.mp hy)]
    rfl
  (repeat decreasing_trivial_pre_omega)
  have sl : ∀ {S : Sto} {R : XV → Sto → Prop} {Q : D → Sto → Prop}, Q (.lst ((List.range m).map fun x => D.lst (rowB n (r x)))) S → W (dSl (lessD n r) none (some (m : Int)) S) R Q := fun {S R Q} k => by
    refine sl_L (xs := (List.range n).map fun x => D.lst (rowB n (r x))) ?_
    rw [cut_up, ← List.map_take, List.take_range, Nat.min_eq_left hm]
    exact k
  refine sl ?_
  (repeat decreasing_trivial_pre_omega)
  refine lc_map (L := List.range m) (mk := fun x => D.lst (rowB n (r x))) (v := fun x => D.lst ((rowB n (r x)).take m)) (by simp [bigN]; omega) (fun x hx => ?_) ?_
  · dsimp only [wipeE, List.set]
    (repeat decreasing_trivial_pre_omega)
    exact ⟨by rw [cut_up], rfl⟩
  refine w_ok (a := lessD m (restR m r)) (by rw [e]; rfl) ?_
  exact fin_p0 cl_less k
theorem o_neT {l l' : List Nat} (k : Q (.bl (!decide (l = l'))) S) : W (dNe (.tup (l.map dN)) (.tup (l'.map dN)) S) R Q := by
  have e : dNe (.tup (l.map dN)) (.tup (l'.map dN)) S = .ok (.bl (!decide (l = l'))) S := by
    show dEqD true _ _ S = _
    have t : ∀ l : List Nat, toP S (.tup (l.map dN)) = some (.tuple (l.map nP)) := fun l => by
      unfold toP
      rw [toPs_N]
      rfl
    unfold dEqD
    rw [t l, t l']
    simp only [sh_Nt, and_self, if_true, PyData.eqv, eqvA_N]
  exact w_ok e k
theorem prd_Up (h1 : Up n r) (h2 : Up m r2) : Up (n * m) (fun i j => decide (j < n * m) && prd m r r2 i j) := by
  have hi : ∀ i j, (decide (j < n * m) && prd m r r2 i j) = true ↔ j < n * m ∧ i ≠ j ∧ (i / m = j / m ∨ r (i / m) (j / m) = true) ∧ (i % m = j % m ∨ r2 (i % m) (j % m) = true) := fun i j => by
    unfold prd
    simp only [Bool.and_eq_true, Bool.or_eq_true, decide_eq_true_eq, Bool.not_eq_true', decide_eq_false_iff_not]
    constructor
    · rintro ⟨a, ⟨b, c⟩, d⟩; exact ⟨a, b, c, d⟩
    · rintro ⟨a, b, c, d⟩; exact ⟨a, ⟨b, c⟩, d⟩
  have back : ∀ i j, i / m = j / m → i % m = j % m → i = j := fun i j e1 e2 => by rw [← Nat.div_add_mod i m, ← Nat.div_add_mod j m, e1, e2]
  refine ⟨fun x y h => ?_, fun x y z ha hb => ?_⟩
  · obtain ⟨a, b, c, d⟩ := (hi x y).mp h
    refine ⟨?_, a⟩
    rcases c with c | c
    · rcases d with d | d
      · exact absurd (back _ _ c d) b
      · have := (h2.lt _ _ d).1
        have e1 := Nat.div_add_mod x m
        have e2 := Nat.div_add_mod y m
        rw [c] at e1
        omega
    · have := (h1.lt _ _ c).1
      exact Nat.lt_of_not_le fun q => by
        have := Nat.div_le_div_right (c := m) q
        omega
  · obtain ⟨_, b1, c1, d1⟩ := (hi x y).mp ha
    obtain ⟨a2, b2, c2, d2⟩ := (hi y z).mp hb
    refine (hi x z).mpr ⟨a2, fun e => ?_, ?_, ?_⟩
    · subst e
      have f1 : x / m = y / m := by
        rcases c1 with c1 | c1
        · exact c1
        · rcases c2 with c2 | c2
          · exact c2.symm
          · have := (h1.lt _ _ c1).1
            have := (h1.lt _ _ c2).1
            omega
      have f2 : x % m = y % m := by
        rcases d1 with d1 | d1
        · exact d1
        · rcases d2 with d2 | d2
          · exact d2.symm
          · have := (h2.lt _ _ d1).1
            have := (h2.lt _ _ d2).1
            omega
      exact b1 (back _ _ f1 f2)
    · rcases c1 with c1 | c1
      · rw [c1]; exact c2
      · rcases c2 with c2 | c2
        · rw [← c2]; exact .inr c1
        · exact .inr (h1.tr _ _ _ c1 c2)
    · rcases d1 with d1 | d1
      · rw [d1]; exact d2
      · rcases d2 with d2 | d2
        · rw [← d2]; exact .inr d1
        · exact .inr (h2.tr _ _ _ d1 d2)
theorem w_product (hn : n ≤ 7) (hm : m ≤ 7) (k : Q (lessD (n * m) (prd m r r2)) S) : W (F__law_product [lessD n r, lessD m r2] S) R Q := by
  refine go__law_product ?_
  obtain ⟨p, hp⟩ : ∃ p, S.length = p := ⟨_, rfl⟩
  (repeat decreasing_trivial_pre_omega)
  refine for_r (fun i env T => T = S ∧ ∃ x3, env = [some (lessD n r), some (lessD m r2), some (.lst (((List.range i).flatMap fun x => (List.range m).map fun q => (x, q)).map pD)), x3, none, none, none]) ⟨rfl, _, rfl⟩ ?_ ?_
  · rintro i hi env T ⟨rfl, x3, rfl⟩
    (repeat decreasing_trivial_pre_omega)
    refine lc_map (L := List.range m) (mk := dN) (v := fun q => pD (i, q)) (by simp [bigN]; omega) (fun q hq => ?_) ?_
    · dsimp only [wipeE, List.set]
      (repeat decreasing_trivial_pre_omega)
      exact ⟨rfl, rfl⟩
    rw [show ((List.range m).map fun q => pD (i, q)) = ((List.range m).map fun q => (i, q)).map pD by rw [List.map_map]; rfl]
    refine w_ok (a := .lst (((List.range m).map fun q => (i, q)).map pD)) rfl ?_
    have hl : ((List.range i).flatMap fun x => (List.range m).map fun q => (x, q)).length ≤ 7 * 7 := by
      rw [rows_eq, List.length_map, List.length_range]
      exact Nat.mul_le_mul (by omega) hm
    refine o_addL (by simp only [List.length_map, List.length_range] at hl ⊢; simp only [bigN]; omega) ?_
    rw [← List.map_append]
    (repeat decreasing_trivial_pre_omega)
    refine ⟨rfl, some (dN i), ?_⟩
    rw [List.range_succ, List.flatMap_append]
    simp
  rintro env T ⟨rfl, x3, rfl⟩
  rw [rows_eq]
  obtain ⟨N, hN⟩ : ∃ N, n * m = N := ⟨_, rfl⟩
  have hN2 : N ≤ 7 * 7 := by rw [← hN]; exact Nat.mul_le_mul hn hm
  rw [hN] at k ⊢
  have hdm : ∀ i, i < N → i / m < n ∧ i % m < m := fun i hi => by
    have h0 : 0 < m := Nat.pos_of_ne_zero fun e => by rw [e] at hN; omega
    exact ⟨Nat.div_lt_of_lt_mul (by rw [Nat.mul_comm]; omega), Nat.mod_lt _ h0⟩
  rw [show ((List.range N).map fun i => (i / m, i % m)).map pD = (List.range N).map fun i => pD (i / m, i % m) by rw [List.map_map]; rfl]
  (repeat decreasing_trivial_pre_omega)
  rw [hp]
  refine for_n (List.range N) (mk := fun i => pD (i / m, i % m)) (fun i env T' => ∃ x3 x5, env = [some (lessD n r), some (lessD m r2), some (.lst ((List.range N).map fun i => pD (i / m, i % m))), x3, some (.ptr p), x5, none] ∧ T' = T ++ [.lst ((List.range i).map fun a => D.lst (rowB N (prd m r r2 a)))]) ⟨_, _, rfl, rfl⟩ ?_ ?_
  · rintro i hi env T' ⟨x3, x5, rfl, rfl⟩
    have hiN : i < N := by simpa using hi
    obtain ⟨h1, h2⟩ := hdm i hiN
    rw [List.getElem_range]
    (repeat decreasing_trivial_pre_omega)
    refine isPtrL_of (xs := (List.range i).map fun a => D.lst (rowB N (prd m r r2 a))) (suf_at0 hp) ?_
    (repeat decreasing_trivial_pre_omega)
    refine lc_map (L := List.range N) (mk := fun j => pD (j / m, j % m)) (v := fun j => D.bl (prd m r r2 i j)) (by simp [bigN]; omega) (fun j hj => ?_) ?_
    · obtain ⟨h3, h4⟩ := hdm j (List.mem_range.mp hj)
      have neq : ∀ T' : Sto, W (zOp dNe (zVar 6) (zTup (zCons (zVar 3) (zCons (zVar 5) zNil))) [some (lessD n r), some (lessD m r2), some (.lst ((List.range N).map fun i => pD (i / m, i % m))), some (dN (i / m)), some (.ptr p), some (dN (i % m)), some (pD (j / m, j % m))] T') N0 fun d T1 => d = .bl (!decide (i = j)) ∧ T1 = T' := by
        intro T'
        (repeat decreasing_trivial_pre_omega)
        refine o_neT (l := [j / m, j % m]) (l' := [i / m, i % m]) ⟨congrArg D.bl (congrArg Bool.not (decide_eq_decide.mpr ⟨fun e => ?_, fun e => by rw [e]⟩)), rfl⟩
        have e1 := (List.cons.inj e).1
        have e2 := (List.cons.inj (List.cons.inj e).2).1
        rw [← Nat.div_add_mod i m, ← Nat.div_add_mod j m, e1, e2]
      have nd : ∀ T' : Sto, W (zAndV (zOrV (zOp dEq (zVar 5) (zOp dIx (zVar 6) (zC (dN 1)))) (zOp dIx (zOp dIx (zVar 1) (zVar 5)) (zOp dIx (zVar 6) (zC (dN 1))))) (zOp dNe (zVar 6) (zTup (zCons (zVar 3) (zCons (zVar 5) zNil)))) [some (lessD n r), some (lessD m r2), some (.lst ((List.range N).map fun i => pD (i / m, i % m))), some (dN (i / m)), some (.ptr p), some (dN (i % m)), some (pD (j / m, j % m))] T') N0 fun d T1 => d = .bl ((decide (i % m = j % m) || r2 (i % m) (j % m)) && !decide (i = j)) ∧ T1 = T' := by
        intro T'
        (repeat decreasing_trivial_pre_omega)
        refine br_d (fun h => ?_) (fun h => ?_)
        · (repeat decreasing_trivial_pre_omega)
          exact w_use (neq T') (fun _ _ q => q) fun d T1 q => ⟨by rw [q.1, decide_eq_true (show i % m = j % m from h)]; rfl, q.2⟩
        · (repeat decreasing_trivial_pre_omega)
          refine br_b (fun h2 => ?_) (fun h2 => ?_)
          · (repeat decreasing_trivial_pre_omega)
            exact w_use (neq T') (fun _ _ q => q) fun d T1 q => ⟨by rw [q.1, decide_eq_false (show ¬ i % m = j % m from h), show r2 (i % m) (j % m) = true from h2]; rfl, q.2⟩
          · (repeat decreasing_trivial_pre_omega)
            exact ⟨by rw [decide_eq_false (show ¬ i % m = j % m from h), show r2 (i % m) (j % m) = false from h2]; rfl, rfl⟩
      have hprd : prd m r r2 i j = ((decide (i / m = j / m) || r (i / m) (j / m)) && ((decide (i % m = j % m) || r2 (i % m) (j % m)) && !decide (i = j))) := by
        unfold prd
        cases decide (i / m = j / m) || r (i / m) (j / m) <;> cases decide (i % m = j % m) || r2 (i % m) (j % m) <;> cases decide (i = j) <;> rfl
      rw [hprd]
      dsimp only [wipeE, List.set]
      generalize (zAndV (zOrV (zOp dEq (zVar 5) (zOp dIx (zVar 6) (zC (dN 1)))) (zOp dIx (zOp dIx (zVar 1) (zVar 5)) (zOp dIx (zVar 6) (zC (dN 1))))) (zOp dNe (zVar 6) (zTup (zCons (zVar 3) (zCons (zVar 5) zNil))))) = nx at nd ⊢
      (repeat decreasing_trivial_pre_omega)
      refine br_d (fun h => ?_) (fun h => ?_)
      · (repeat decreasing_trivial_pre_omega)
        exact w_use (nd _) (fun _ _ q => q) fun d T1 q => ⟨by rw [q.1, decide_eq_true (show i / m = j / m from h)]; rfl, q.2⟩
      · (repeat decreasing_trivial_pre_omega)
        refine br_b (fun h2 => ?_) (fun h2 => ?_)
        · (repeat decreasing_trivial_pre_omega)
          exact w_use (nd _) (fun _ _ q => q) fun d T1 q => ⟨by rw [q.1, decide_eq_false (show ¬ i / m = j / m from h), show r (i / m) (j / m) = true from h2]; rfl, q.2⟩
        · (repeat decreasing_trivial_pre_omega)
          exact ⟨by rw [decide_eq_false (show ¬ i / m = j / m from h), show r (i / m) (j / m) = false from h2]; rfl, rfl⟩
    refine w_ok (a := .lst (rowB N (prd m r r2 i))) rfl ?_
    (repeat decreasing_trivial_pre_omega)
    refine b_app (xs := (List.range i).map fun a => D.lst (rowB N (prd m r r2 a))) (suf_at0 hp) (by simp [bigN]; omega) ?_
    rw [suf_set0 hp]
    (repeat decreasing_trivial_pre_omega)
    refine ⟨_, _, rfl, ?_⟩
    rw [List.range_succ, List.map_append]
    rfl
  · rintro env T' ⟨x3, x5, rfl, rfl⟩
    rw [List.length_range]
    (repeat decreasing_trivial_pre_omega)
    subst hp
    exact fin_one cl_less k
end
end K58.K56

namespace K58.K56
open PySem L2 Z V K06 K07 K58
open PySem.Spec PyProof.Rows
variable [Tabs]
set_option synthInstance.maxHeartbeats 0
set_option synthInstance.maxSize 1000000
local macro_rules | `(tactic| decreasing_trivial_pre_omega) => `(tactic| first
  | ((with_reducible refine ix_less ?_ ?_); omega)
  | ((with_reducible refine ix_rowB ?_ ?_); omega)
  | (with_reducible refine len_less ?_)
  | (with_reducible refine E1.imp ?_)
  | ((with_reducible refine rng1_n ?_ ?_); omega)
  | ((with_reducible refine rng2_n ?_ ?_ ?_); omega; omega)
  | ((with_reducible refine o_subN ?_ ?_); omega)
  | ((with_reducible refine o_mulN ?_ ?_); omega)
  | ((with_reducible refine o_divN ?_ ?_ ?_); omega; omega)
  | ((with_reducible refine o_modN ?_ ?_); omega)
  | ((with_reducible refine o_shl1 ?_ ?_); omega)
  | ((with_reducible refine ix_rngL ?_ ?_); omega)
  | ((with_reducible refine ix_tab ?_ ?_); omega)
  | ((with_reducible refine ix_mapL ?_ ?_); omega)
  | ((with_reducible refine ix_mapT ?_ ?_); omega)
  | ((with_reducible refine o_modIN ?_ ?_); omega)
  | ((with_reducible refine o_divIN ?_ ?_ ?_); omega; omega)
  | ((with_reducible refine o_mulIN ?_ ?_); omega)
  | ((with_reducible refine o_mulNI ?_ ?_); omega)
  | ((with_reducible refine o_mulNN ?_ ?_); omega)
  | ((with_reducible refine o_mul1 ?_ ?_); omega)
  | ((with_reducible refine o_mulC ?_ ?_); omega)
  | ((with_reducible refine br_dt ?_ ?_); omega)
  | ((with_reducible refine br_df ?_ ?_); omega)
  | ((with_reducible refine o_addT ?_ ?_); (focus (simp [bigN]; done)))
  | ((with_reducible refine o_addL ?_ ?_); (focus (simp [bigN]; done)))
  | ((with_reducible refine br_dt ?_ ?_); exact rfl)
  | ((with_reducible refine br_df ?_ ?_); exact Bool.false_ne_true)
  | ((with_reducible refine br_df ?_ ?_); exact (fun h => Bool.false_ne_true h.symm))
  | ((with_reducible refine w_xis_t ?_ ?_); decide +kernel)
  | ((with_reducible refine w_xis_f ?_ ?_); decide +kernel)
  | ((with_reducible refine w_xf1 ?_ ?_); decide +kernel)
  | ((with_reducible refine tryq_t ?_ ?_ ?_); (focus (simp; done)); decide +kernel; dsimp only [List.set])
  | ((with_reducible refine tryq_f ?_ ?_ ?_); (focus (simp; done)); decide +kernel))
section
variable {n m : Nat} {r r2 q : Nat → Nat → Bool} {l : List Nat} {S : Sto} {R : XV → Sto → Prop} {Q : D → Sto → Prop}
/-- how many chains of k points -/
def cN (n : Nat) (r : Nat → Nat → Bool) (k : Nat) : Nat := ((List.range n).map (en n r k)).sum
/-- the first number without a chain -/
structure Top (c : Nat → Nat) (K : Nat) : Prop where
  no : ∀ k, K ≤ k → c k = 0
  yes : ∀ k, k < K → c k ≠ 0
theorem Top.uniq {c : Nat → Nat} {K K' : Nat} (h : Top c K) (h' : Top c K') : K = K' := by
  rcases Nat.lt_trichotomy K K' with q | q | q
  · exact absurd (h.no K (Nat.le_refl _)) (h'.yes K q)
  · exact q
  · exact absurd (h'.no K' (Nat.le_refl _)) (h.yes K' q)
theorem cN_zero {k : Nat} : cN n r k = 0 ↔ ∀ x, x < n → en n r k x = 0 := by
  unfold cN
  constructor
  · intro h x hx
    exact sum_zero h _ (List.mem_map_of_mem (List.mem_range.mpr hx))
  · intro h
    exact zero_sum fun z hz => by
      obtain ⟨x, hx, rfl⟩ := List.mem_map.mp hz
      exact h x (List.mem_range.mp hx)
theorem cN_next {k : Nat} (h : cN n r k = 0) : cN n r (k + 1) = 0 := cN_zero.mpr fun x hx => zero_sum fun z hz => by
  obtain ⟨y, hy, rfl⟩ := List.mem_map.mp hz
  exact cN_zero.mp h y (List.mem_range.mp (List.mem_filter.mp hy).1)
theorem cN_from {k K : Nat} (h : cN n r K = 0) (hk : K ≤ k) : cN n r k = 0 := by
  obtain ⟨d, rfl⟩ := Nat.le.dest hk
  induction d with
  | zero => exact h
  | succ d ih => exact cN_next (ih (by omega))
theorem Top.of {K : Nat} (h : cN n r K = 0) (h2 : ∀ k, k < K → cN n r k ≠ 0) : Top (cN n r) K := ⟨fun k hk => cN_from h hk, h2⟩
theorem w_counts2 {N : Nat} {rk : Nat → Nat} (hN : N ≤ 64) (hq : Rk N q rk) (k : ∀ K, Top (cN N q) K → Q (.tup (((List.range K).map (cN N q)).map dN)) S) : W (F_chain_counts [ordD N (canon N q)] S) R Q := by
  refine go_chain_counts ?_
  obtain ⟨p, hp⟩ : ∃ p, S.length = p := ⟨_, rfl⟩
  (repeat decreasing_trivial_pre_omega)
  refine w_ok (eval_below hN (fun p hp => ?_) S) ?_
  · have := mem_canon.mp (show (p.1, p.2) ∈ canon N q from hp)
    exact ⟨by omega, this.2.1⟩
  (repeat decreasing_trivial_pre_omega)
  refine lc_map (L := List.range N) (mk := fun x => D.int ((upF ((canon N q).map fun p => (p.2, p.1)) (fun _ => 0) x : Nat) : Int)) (v := fun x => D.lst (((List.range N).filter fun y => q y x).map dN)) (by simp [bigN]; omega) (fun x hx => ?_) ?_
  · have hx := List.mem_range.mp hx
    dsimp only [wipeE, List.set]
    (repeat decreasing_trivial_pre_omega)
    refine w_ok (eval_bits (down_lt hN x) S) ?_
    rw [down_bits hN hx]
    exact ⟨rfl, rfl⟩
  refine w_ok (a := .lst ((List.range N).map fun x => D.lst (((List.range N).filter fun y => q y x).map dN))) (S := S) rfl ?_
  (repeat decreasing_trivial_pre_omega)
  rw [hp]
  have e0 : List.replicate N (dN 1) = ((List.range N).map (en N q 0)).map dN := by
    rw [List.map_map]
    show _ = (List.range N).map fun _ => dN 1
    rw [List.map_const', List.length_range]
  rw [e0]
  refine while_n (k := 64) (fun k env T => ∃ i, i ≤ 64 ∧ k = 64 - i ∧ env = [some (ordD N (canon N q)), some (.lst ((List.range N).map fun x => D.lst (((List.range N).filter fun y => q y x).map dN))), some (.ptr p), some (.lst (((List.range N).map (en N q i)).map dN)), none, none, none] ∧ T = S ++ [.lst (((List.range i).map fun k => ((List.range N).map (en N q k)).sum).map dN)] ∧ ∀ j, j < i → cN N q j ≠ 0) ⟨0, by omega, rfl, rfl, rfl, fun j h => absurd h (by omega)⟩ (by decide) ?_
  rintro k' env T ⟨i, hi, rfl, rfl, rfl, hj⟩
  (repeat decreasing_trivial_pre_omega)
  refine b_anyN ?_
  cases hany : ((List.range N).map (en N q i)).any fun x => decide (x ≠ 0) with
  | true =>
    refine br_t ?_
    have hi2 : i < 64 := by
      obtain ⟨z, hz, hz2⟩ := List.any_eq_true.mp hany
      obtain ⟨x, hx, rfl⟩ := List.mem_map.mp hz
      have hx := List.mem_range.mp hx
      refine Nat.lt_of_not_le fun h => of_decide_eq_true hz2 ?_
      have := hq.lt x hx
      exact en_low hq.up i x hx (by omega)
    (repeat decreasing_trivial_pre_omega)
    refine isPtrL_of (xs := ((List.range i).map fun k => ((List.range N).map (en N q k)).sum).map dN) (suf_at0 hp) ?_
    (repeat decreasing_trivial_pre_omega)
    refine b_sumN ?_
    (repeat decreasing_trivial_pre_omega)
    refine b_app (xs := ((List.range i).map fun k => ((List.range N).map (en N q k)).sum).map dN) (suf_at0 hp) (by simp [bigN]; omega) ?_
    rw [suf_set0 hp]
    (repeat decreasing_trivial_pre_omega)
    refine lc_map (L := List.range N) (mk := fun x => D.lst (((List.range N).filter fun y => q y x).map dN)) (v := fun x => dN (en N q (i + 1) x)) (by simp [bigN]; omega) (fun x hx => ?_) ?_
    · have hx := List.mem_range.mp hx
      have hfl : ((List.range N).filter fun y => q y x).length ≤ N := Nat.le_trans (List.length_filter_le _ _) (by simp)
      dsimp only [wipeE, List.set]
      (repeat decreasing_trivial_pre_omega)
      refine lc_map (L := (List.range N).filter fun y => q y x) (mk := dN) (v := fun y => dN (en N q i y)) (by simp only [bigN]; omega) (fun y hy => ?_) ?_
      · have hy := List.mem_range.mp (List.mem_filter.mp hy).1
        dsimp only [wipeE, List.set]
        (repeat decreasing_trivial_pre_omega)
        refine ix_gen (xs := ((List.range N).map (en N q i)).map dN) rfl (d := dN (en N q i y)) (by rw [List.getElem?_map, List.getElem?_map, List.getElem?_range hy]; rfl) ?_
        exact ⟨rfl, rfl⟩
      rw [show (((List.range N).filter fun y => q y x).map fun y => dN (en N q i y)) = (((List.range N).filter fun y => q y x).map (en N q i)).map dN by rw [List.map_map]; rfl]
      refine w_ok (a := .lst ((((List.range N).filter fun y => q y x).map (en N q i)).map dN)) rfl ?_
      (repeat decreasing_trivial_pre_omega)
      refine b_sumN ?_
      exact ⟨rfl, rfl⟩
    rw [show ((List.range N).map fun x => dN (en N q (i + 1) x)) = ((List.range N).map (en N q (i + 1))).map dN by rw [List.map_map]; rfl]
    refine w_ok (a := .lst (((List.range N).map (en N q (i + 1))).map dN)) rfl ?_
    (repeat decreasing_trivial_pre_omega)
    refine ⟨63 - i, by omega, i + 1, by omega, by omega, rfl, ?_, fun j h => ?_⟩
    · rw [List.range_succ, List.map_append, List.map_append]
      rfl
    · by_cases e : j < i
      · exact hj j e
      · rw [show j = i by omega]
        intro h0
        obtain ⟨z, hz, hz2⟩ := List.any_eq_true.mp hany
        exact of_decide_eq_true hz2 (sum_zero h0 z hz)
  | false =>
    refine br_f ?_
    (repeat decreasing_trivial_pre_omega)
    refine b_tupP (suf_at0 hp) ?_
    refine fin_pL (cl_nats _) (k i (Top.of (cN_zero.mpr fun x hx => ?_) hj))
    have := List.any_eq_false.mp hany (en N q i x) (List.mem_map_of_mem (List.mem_range.mpr hx))
    exact Decidable.of_not_not fun h => this (decide_eq_true h)
theorem w_lawcounts (hn : n ≤ 64) (hU : Up n r) (k : ∀ K, Top (cN n r) K → Q (.lst (((List.range K).map (cN n r)).map dN)) S) : W (F__law_counts [lessD n r] S) R Q := by
  refine go__law_counts ?_
  obtain ⟨p, hp⟩ : ∃ p, S.length = p := ⟨_, rfl⟩
  have low : ∀ x, x < n → en n r n x = 0 := fun x hx => en_low (rk := id) (fun x y _ _ h => (hU.lt x y h).1) n x hx hx
  (repeat decreasing_trivial_pre_omega)
  rw [hp]
  have e0 : List.replicate n (dN 1) = ((List.range n).map (en n r 0)).map dN := by
    rw [List.map_map]
    show _ = (List.range n).map fun _ => dN 1
    rw [List.map_const', List.length_range]
  rw [e0]
  have fin : ∀ (i : Nat) (x2 x4 : Option D), cN n r i = 0 → (∀ j, j < i → cN n r j ≠ 0) → X (zRet (zVar 3) [some (lessD n r), some (dN n), x2, some (.ptr p), x4, none, none] (S ++ [.lst (((List.range i).map (cN n r)).map dN)])) (FinQ 1 S R Q) := by
    intro i x2 x4 h1 h2
    (repeat decreasing_trivial_pre_omega)
    subst hp
    exact fin_one (cl_nats _) (k i (Top.of h1 h2))
  generalize zRet (zVar 3) = tl at fin ⊢
  refine for_r (fun i env T => ∃ x4, env = [some (lessD n r), some (dN n), some (.lst (((List.range n).map (en n r i)).map dN)), some (.ptr p), x4, none, none] ∧ T = S ++ [.lst (((List.range i).map (cN n r)).map dN)] ∧ ∀ j, j < i → cN n r j ≠ 0) ⟨_, rfl, rfl, fun j h => absurd h (by omega)⟩ ?_ ?_
  · rintro i hi env T ⟨x4, rfl, rfl, hj⟩
    (repeat decreasing_trivial_pre_omega)
    refine b_sumN ?_
    (repeat decreasing_trivial_pre_omega)
    refine br_d (fun h => ?_) (fun h => ?_)
    · (repeat decreasing_trivial_pre_omega)
      exact fin i _ _ h hj
    · (repeat decreasing_trivial_pre_omega)
      refine isPtrL_of (xs := ((List.range i).map (cN n r)).map dN) (suf_at0 hp) ?_
      (repeat decreasing_trivial_pre_omega)
      refine b_sumN ?_
      (repeat decreasing_trivial_pre_omega)
      refine b_app (xs := ((List.range i).map (cN n r)).map dN) (suf_at0 hp) (by simp [bigN]; omega) ?_
      rw [suf_set0 hp]
      (repeat decreasing_trivial_pre_omega)
      refine lc_map (L := List.range n) (mk := dN) (v := fun x => dN (en n r (i + 1) x)) (by simp [bigN]; omega) (fun x hx => ?_) ?_
      · have hx := List.mem_range.mp hx
        dsimp only [wipeE, List.set]
        (repeat decreasing_trivial_pre_omega)
        refine lc_pure (L := List.range n) (mk := dN) (p := fun y => r y x) (v := fun y => dN (en n r i y)) (by simp [bigN]; omega) (fun y hy => ?_) ?_
        · have hy := List.mem_range.mp hy
          dsimp only [wipeE, List.set]
          (repeat decreasing_trivial_pre_omega)
          refine ⟨rfl, rfl, fun _ => ?_⟩
          (repeat decreasing_trivial_pre_omega)
          refine ix_gen (xs := ((List.range n).map (en n r i)).map dN) rfl (d := dN (en n r i y)) (by rw [List.getElem?_map, List.getElem?_map, List.getElem?_range hy]; rfl) ?_
          exact ⟨rfl, rfl⟩
        rw [show (((List.range n).filter fun y => r y x).map fun y => dN (en n r i y)) = (((List.range n).filter fun y => r y x).map (en n r i)).map dN by rw [List.map_map]; rfl]
        refine w_ok (a := .lst ((((List.range n).filter fun y => r y x).map (en n r i)).map dN)) rfl ?_
        (repeat decreasing_trivial_pre_omega)
        refine b_sumN ?_
        exact ⟨rfl, rfl⟩
      rw [show ((List.range n).map fun x => dN (en n r (i + 1) x)) = ((List.range n).map (en n r (i + 1))).map dN by rw [List.map_map]; rfl]
      refine w_ok (a := .lst (((List.range n).map (en n r (i + 1))).map dN)) rfl ?_
      (repeat decreasing_trivial_pre_omega)
      refine ⟨_, rfl, ?_, fun j hj2 => ?_⟩
      · rw [List.range_succ, List.map_append, List.map_append]
        rfl
      · by_cases e : j < i
        · exact hj j e
        · rw [show j = i by omega]
          exact h
  · rintro env T ⟨x4, rfl, rfl, hj⟩
    exact fin n _ _ (cN_zero.mpr low) hj
end
end K58.K56

namespace K58.K56
open PySem L2 Z V K06 K07 K58
open PySem.Spec PyProof.Rows
variable [Tabs]
set_option synthInstance.maxHeartbeats 0
set_option synthInstance.maxSize 1000000
local macro_rules | `(tactic| decreasing_trivial_pre_omega) => `(tactic| first
  | (with_reducible refine E1.imp ?_)
  | ((with_reducible refine rng1_n ?_ ?_); omega)
  | ((with_reducible refine rng2_n ?_ ?_ ?_); omega; omega)
  | ((with_reducible refine o_subN ?_ ?_); omega)
  | ((with_reducible refine o_mulN ?_ ?_); omega)
  | ((with_reducible refine o_divN ?_ ?_ ?_); omega; omega)
  | ((with_reducible refine o_modN ?_ ?_); omega)
  | ((with_reducible refine o_shl1 ?_ ?_); omega)
  | ((with_reducible refine ix_rngL ?_ ?_); omega)
  | ((with_reducible refine ix_tab ?_ ?_); omega)
  | ((with_reducible refine ix_mapL ?_ ?_); omega)
  | ((with_reducible refine ix_mapT ?_ ?_); omega)
  | ((with_reducible refine o_modIN ?_ ?_); omega)
  | ((with_reducible refine o_divIN ?_ ?_ ?_); omega; omega)
  | ((with_reducible refine o_mulIN ?_ ?_); omega)
  | ((with_reducible refine o_mulNI ?_ ?_); omega)
  | ((with_reducible refine o_mulNN ?_ ?_); omega)
  | ((with_reducible refine o_mul1 ?_ ?_); omega)
  | ((with_reducible refine o_mulC ?_ ?_); omega)
  | ((with_reducible refine br_dt ?_ ?_); omega)
  | ((with_reducible refine br_df ?_ ?_); omega)
  | ((with_reducible refine o_addT ?_ ?_); (focus (simp [bigN]; done)))
  | ((with_reducible refine o_addL ?_ ?_); (focus (simp [bigN]; done)))
  | ((with_reducible refine br_dt ?_ ?_); exact rfl)
  | ((with_reducible refine br_df ?_ ?_); exact Bool.false_ne_true)
  | ((with_reducible refine br_df ?_ ?_); exact (fun h => Bool.false_ne_true h.symm))
  | ((with_reducible refine w_xis_t ?_ ?_); decide +kernel)
  | ((with_reducible refine w_xis_f ?_ ?_); decide +kernel)
  | ((with_reducible refine w_xf1 ?_ ?_); decide +kernel)
  | ((with_reducible refine tryq_t ?_ ?_ ?_); (focus (simp; done)); decide +kernel; dsimp only [List.set])
  | ((with_reducible refine tryq_f ?_ ?_ ?_); (focus (simp; done)); decide +kernel))
section
variable {α β : Type} {l : List α} {f g : α → Int}
theorem sI_flat {k : α → List β} {F : β → Int} : sI (l.flatMap k) F = sI l fun a => sI (k a) F := by
  induction l with
  | nil => rfl
  | cons x l ih => rw [List.flatMap_cons, sI_app, ih, sI_cons]
theorem sI_mul {c : Int} : sI l (fun a => c * f a) = c * sI l f := by
  induction l with
  | nil => exact (Int.mul_zero c).symm
  | cons x l ih => rw [sI_cons, sI_cons, ih, Int.mul_add]
theorem sI_mulR {c : Int} : sI l (fun a => f a * c) = sI l f * c := by
  induction l with
  | nil => exact (Int.zero_mul c).symm
  | cons x l ih => rw [sI_cons, sI_cons, ih, Int.add_mul]
end
section
variable {n m N : Nat} {r q p : Nat → Nat → Bool} {l : List Nat} {f g h w w' : Nat → Int} {rk rk' : Nat → Nat} {tot : Int} {S : Sto} {R : XV → Sto → Prop} {Q : D → Sto → Prop}
theorem sI_one {x : Nat} {v : Int} (hx : x < n) : sI (List.range n) (fun y => if y = x then v else 0) = v := by
  have e1 : List.range n = List.range x ++ x :: (List.range n).drop (x + 1) := by
    have h1 : (List.range n).take x = List.range x := by rw [List.take_range, Nat.min_eq_left (by omega)]
    have h2 := List.drop_eq_getElem_cons (l := List.range n) (i := x) (by simpa using hx)
    rw [List.getElem_range] at h2
    rw [← h2, ← h1, List.take_append_drop]
  rw [e1, sI_app, sI_cons, sI_zero fun y hy => if_neg (by have := List.mem_range.mp hy; omega), if_pos rfl, sI_zero fun y hy => if_neg ?_]
  · omega
  · intro e
    have nd : (List.range x ++ x :: (List.range n).drop (x + 1)).Nodup := by rw [← e1]; exact List.nodup_range
    exact (List.nodup_cons.mp (List.nodup_append.mp nd).2.1).1 (e ▸ hy)
theorem wg_uniq (hq : ∀ x y, x < N → y < N → q x y = true → rk x < rk y) (h1 : Wg N q w) (h2 : Wg N q w') : ∀ (k x : Nat), x < N → rk x < k → w x = w' x
  | 0, _, _, hk => by omega
  | k + 1, x, hx, hk => by
    rw [h1 x hx, h2 x hx]
    congr 1
    refine sI_cg fun y hy => ?_
    have hy := List.mem_range.mp hy
    by_cases e : q y x = true
    · rw [if_pos e, if_pos e]
      have := hq y x hy hx e
      exact wg_uniq hq h1 h2 k y hy (by omega)
    · rw [if_neg e, if_neg e]
theorem wg_same (hq : ∀ x y, x < N → y < N → q x y = true → rk x < rk y) (h1 : Wg N q w) (h2 : Wg N q w') : sI (List.range N) w = sI (List.range N) w' := sI_cg fun x hx => wg_uniq hq h1 h2 (rk x + 1) x (List.mem_range.mp hx) (Nat.lt_succ_self _)
theorem euler_is (hN : N ≤ 64) (hq : Rk N q rk) (hW : Wg N q w) (ht : sI (List.range N) w = tot) (k : Q (.int tot) S) : W (F_euler [ordD N (canon N q)] S) R Q := by
  refine w_euler hN hq fun G hG => ?_
  rw [wg_same hq.up (show Wg N q G from hG) hW, ht]
  exact k
theorem wg_ex (hU : Up n r) : Wg n r (gK n r n) := fun x hx => gK_rec (fun x hx => en_low (rk := id) (fun x y _ _ h => (hU.lt x y h).1) n x hx hx) hx
/-! ### points named anew -/
theorem sI_names (hl : Nm n l) : sI (List.range n) (fun b => f (l.idxOf b)) = sI (List.range n) f := by
  have hper : l.Perm (List.range n) := (List.perm_ext_iff_of_nodup hl.nd List.nodup_range).mpr fun a => by rw [hl.mem, List.mem_range]
  rw [← sI_perm hper, sI_at, hl.len]
  refine sI_cg fun x hx => ?_
  rw [hl.idx (List.mem_range.mp hx)]
theorem nm_val {a b : Nat} (ha : a < n) (hb : b < n) : nmR n l r a b = r (l.idxOf a) (l.idxOf b) := by
  unfold nmR
  rw [decide_eq_true ha, decide_eq_true hb]
  rfl
theorem wg_told (hl : Nm n l) (hW : Wg n r h) : Wg n (nmR n l r) fun a => h (l.idxOf a) := fun a ha => by
  show h (l.idxOf a) = _
  rw [hW _ (hl.idxlt ha), ← sI_names (f := fun y => if r y (l.idxOf a) = true then h y else 0) hl]
  congr 1
  refine sI_cg fun b hb => ?_
  rw [nm_val (List.mem_range.mp hb) ha]
theorem en_told (hl : Nm n l) : ∀ (k a : Nat), a < n → ((en n (nmR n l r) k a : Nat) : Int) = (en n r k (l.idxOf a) : Nat)
  | 0, _, _ => rfl
  | k + 1, a, ha => by
    rw [en_s, en_s, sI_filter, sI_filter, ← sI_names (f := fun y => if r y (l.idxOf a) = true then ((en n r k y : Nat) : Int) else 0) hl]
    refine sI_cg fun b hb => ?_
    have hb := List.mem_range.mp hb
    rw [nm_val hb ha, en_told hl k b hb]
theorem cN_cast {k : Nat} : ((cN n r k : Nat) : Int) = sI (List.range n) fun x => ((en n r k x : Nat) : Int) := by
  unfold cN
  rw [sum_cast, List.map_map]
  rfl
theorem cN_told (hl : Nm n l) : cN n (nmR n l r) = cN n r := funext fun k => by
  have : ((cN n (nmR n l r) k : Nat) : Int) = (cN n r k : Nat) := by
    rw [cN_cast, cN_cast, ← sI_names (f := fun y => ((en n r k y : Nat) : Int)) hl]
    exact sI_cg fun a ha => en_told hl k a (List.mem_range.mp ha)
  omega
/-! ### side by side -/
theorem sI_add2 : sI (List.range (n + m)) f = sI (List.range n) f + sI (List.range m) fun y => f (n + y) := by
  rw [List.range_add, sI_app, sI_map]
theorem b_ll {x y : Nat} (hx : x < n) (hy : y < n) : bes n q p x y = q x y := by
  unfold bes
  rw [decide_eq_true hx, decide_eq_true hy, decide_eq_false (show ¬ n ≤ x by omega)]
  simp
theorem b_hl {x y : Nat} (hy : y < n) : bes n q p (n + x) y = false := by
  unfold bes
  rw [decide_eq_false (show ¬ n + x < n by omega), decide_eq_false (show ¬ n ≤ y by omega)]
  simp
theorem b_lh {x y : Nat} (hx : x < n) : bes n q p x (n + y) = false := by
  unfold bes
  rw [decide_eq_false (show ¬ n + y < n by omega), decide_eq_false (show ¬ n ≤ x by omega)]
  simp
theorem b_hh {x y : Nat} : bes n q p (n + x) (n + y) = p x y := by
  unfold bes
  rw [decide_eq_false (show ¬ n + x < n by omega), decide_eq_true (show n ≤ n + x by omega), decide_eq_true (show n ≤ n + y by omega), show n + x - n = x by omega, show n + y - n = y by omega]
  simp
def twoF {γ : Type} (n : Nat) (a b : Nat → γ) (x : Nat) : γ := if x < n then a x else b (x - n)
theorem two_l {γ : Type} {a b : Nat → γ} {x : Nat} (hx : x < n) : twoF n a b x = a x := if_pos hx
theorem two_h {γ : Type} {a b : Nat → γ} {x : Nat} : twoF n a b (n + x) = b x := by unfold twoF; rw [if_neg (by omega), show n + x - n = x by omega]
theorem split_x {x : Nat} (hx : x < n + m) : x < n ∨ ∃ y, y < m ∧ x = n + y := by
  by_cases e : x < n
  · exact .inl e
  · exact .inr ⟨x - n, by omega, by omega⟩
theorem wg_bes (h1 : Wg n q w) (h2 : Wg m p w') : Wg (n + m) (bes n q p) (twoF n w w') := fun x hx => by
  rw [sI_add2]
  rcases split_x hx with hx | ⟨y, hy, rfl⟩
  · rw [two_l hx, h1 x hx, sI_zero (l := List.range m) fun y _ => by rw [b_hl hx]; rfl, Int.add_zero]
    congr 1
    refine sI_cg fun y hy => ?_
    have hy := List.mem_range.mp hy
    rw [b_ll hy hx, two_l hy]
  · rw [two_h, h2 y hy, sI_zero (l := List.range n) fun z hz => by rw [b_lh (List.mem_range.mp hz)]; rfl, Int.zero_add]
    congr 1
    refine sI_cg fun z hz => ?_
    rw [b_hh, two_h]
theorem sum_bes : sI (List.range (n + m)) (twoF n w w') = sI (List.range n) w + sI (List.range m) w' := by
  rw [sI_add2]
  congr 1
  · exact sI_cg fun x hx => two_l (List.mem_range.mp hx)
  · exact sI_cg fun x hx => two_h
theorem rk_bes (h1 : Rk n q rk) (h2 : Rk m p rk') : Rk (n + m) (bes n q p) (twoF n rk rk') := by
  refine ⟨fun x y hx hy h => ?_, fun x hx => ?_⟩
  · rcases split_x hx with hx | ⟨x, kx, rfl⟩
    · rcases split_x hy with hy | ⟨y, ky, rfl⟩
      · rw [b_ll hx hy] at h
        rw [two_l hx, two_l hy]
        exact h1.up x y hx hy h
      · rw [b_lh hx] at h; cases h
    · rcases split_x hy with hy | ⟨y, ky, rfl⟩
      · rw [b_hl hy] at h; cases h
      · rw [b_hh] at h
        rw [two_h, two_h]
        exact h2.up x y kx ky h
  · rcases split_x hx with hx | ⟨x, kx, rfl⟩
    · rw [two_l hx]; exact h1.lt x hx
    · rw [two_h]; exact h2.lt x kx
theorem en_bes : ∀ (k x : Nat), x < n + m → ((en (n + m) (bes n q p) k x : Nat) : Int) = (twoF n (en n q k) (en m p k) x : Nat)
  | 0, x, hx => by unfold twoF; split <;> rfl
  | k + 1, x, hx => by
    rw [en_s, sI_filter, sI_add2]
    rcases split_x hx with hx | ⟨y, hy, rfl⟩
    · rw [two_l hx, en_s, sI_filter, sI_zero (l := List.range m) fun y _ => by rw [b_hl hx]; rfl, Int.add_zero]
      refine sI_cg fun y hy => ?_
      have hy := List.mem_range.mp hy
      rw [b_ll hy hx, en_bes k y (by omega), two_l hy]
    · rw [two_h, en_s, sI_filter, sI_zero (l := List.range n) fun z hz => by rw [b_lh (List.mem_range.mp hz)]; rfl, Int.zero_add]
      refine sI_cg fun z hz => ?_
      have hz := List.mem_range.mp hz
      rw [b_hh, en_bes k (n + z) (by omega), two_h]
theorem cN_bes : cN (n + m) (bes n q p) = fun k => cN n q k + cN m p k := funext fun k => by
  have : ((cN (n + m) (bes n q p) k : Nat) : Int) = ((cN n q k + cN m p k : Nat) : Int) := by
    rw [Int.natCast_add, cN_cast, cN_cast, cN_cast, sI_add2]
    congr 1
    · refine sI_cg fun x hx => ?_
      have hx := List.mem_range.mp hx
      rw [en_bes k x (by omega), two_l hx]
    · refine sI_cg fun x hx => ?_
      have hx := List.mem_range.mp hx
      rw [en_bes k (n + x) (by omega), two_h]
  omega
theorem top_add {c d : Nat → Nat} {K K' : Nat} (h1 : Top c K) (h2 : Top d K') : Top (fun k => c k + d k) (max K K') := by
  refine ⟨fun k hk => ?_, fun k hk => ?_⟩
  · show c k + d k = 0
    rw [h1.no k (by omega), h2.no k (by omega)]
  · show c k + d k ≠ 0
    by_cases e : k < K
    · have := h1.yes k e; omega
    · have := h2.yes k (by omega); omega
/-! ### the product -/
theorem sI_prod {F : Nat → Nat → Int} : sI (List.range (n * m)) (fun i => F (i / m) (i % m)) = sI (List.range n) fun a => sI (List.range m) fun b => F a b := by
  have e : sI (List.range (n * m)) (fun i => F (i / m) (i % m)) = sI ((List.range (n * m)).map fun i => (i / m, i % m)) fun z => F z.1 z.2 := by rw [sI_map]
  rw [e, ← rows_eq, sI_flat]
  refine sI_cg fun a _ => ?_
  rw [sI_map]
theorem full_one (hq : ∀ x, x < n → q x x = false) (h1 : Wg n q w) {a : Nat} (ha : a < n) : sI (List.range n) (fun c => if c = a ∨ q c a = true then w c else 0) = 1 := by
  have e : (sI (List.range n) fun c => if c = a ∨ q c a = true then w c else 0) = sI (List.range n) fun c => (if c = a then w a else 0) + if q c a = true then w c else 0 := sI_cg fun c hc => by
    by_cases e : c = a
    · subst e
      rw [if_pos (.inl rfl), if_pos rfl, hq c (List.mem_range.mp hc), if_neg Bool.false_ne_true, Int.add_zero]
    · rw [if_neg e, Int.zero_add]
      by_cases e2 : q c a = true
      · rw [if_pos (.inr e2), if_pos e2]
      · rw [if_neg (fun q => q.elim e e2), if_neg e2]
  rw [e, sI_add, sI_one ha, h1 a ha]
  omega
theorem wg_prd (hq : ∀ x, x < n → q x x = false) (hp : ∀ x, x < m → p x x = false) (h1 : Wg n q w) (h2 : Wg m p w') : Wg (n * m) (prd m q p) fun i => w (i / m) * w' (i % m) := fun i hi => by
  have h0 : 0 < m := Nat.pos_of_ne_zero fun e => by rw [e] at hi; omega
  have ha : i / m < n := Nat.div_lt_of_lt_mul (by rw [Nat.mul_comm]; omega)
  have hb : i % m < m := Nat.mod_lt _ h0
  have e1 : sI (List.range (n * m)) (fun j => (if j / m = i / m ∨ q (j / m) (i / m) = true then w (j / m) else 0) * (if j % m = i % m ∨ p (j % m) (i % m) = true then w' (j % m) else 0)) = 1 := by
    rw [sI_prod (F := fun c d => (if c = i / m ∨ q c (i / m) = true then w c else 0) * (if d = i % m ∨ p d (i % m) = true then w' d else 0))]
    rw [sI_cg (g := fun c => (if c = i / m ∨ q c (i / m) = true then w c else 0) * 1) fun c _ => by rw [sI_mul, full_one hp h2 hb]]
    rw [sI_mulR, full_one hq h1 ha]
    rfl
  have e2 : sI (List.range (n * m)) (fun j => (if j / m = i / m ∨ q (j / m) (i / m) = true then w (j / m) else 0) * (if j % m = i % m ∨ p (j % m) (i % m) = true then w' (j % m) else 0)) = sI (List.range (n * m)) fun j => (if j = i then w (i / m) * w' (i % m) else 0) + if prd m q p j i = true then w (j / m) * w' (j % m) else 0 := sI_cg fun j hj => by
    have hpr : prd m q p j i = true ↔ j ≠ i ∧ (j / m = i / m ∨ q (j / m) (i / m) = true) ∧ (j % m = i % m ∨ p (j % m) (i % m) = true) := by
      unfold prd
      simp only [Bool.and_eq_true, Bool.or_eq_true, decide_eq_true_eq, Bool.not_eq_true', decide_eq_false_iff_not]
      exact ⟨fun h => ⟨h.1.1, h.1.2, h.2⟩, fun h => ⟨⟨h.1, h.2.1⟩, h.2.2⟩⟩
    by_cases e : j = i
    · subst e
      rw [if_pos (.inl rfl), if_pos (.inl rfl), if_pos rfl, if_neg fun h => (hpr.mp h).1 rfl, Int.add_zero]
    · rw [if_neg e, Int.zero_add]
      by_cases c1 : j / m = i / m ∨ q (j / m) (i / m) = true
      · by_cases c2 : j % m = i % m ∨ p (j % m) (i % m) = true
        · rw [if_pos c1, if_pos c2, if_pos (hpr.mpr ⟨e, c1, c2⟩)]
        · rw [if_neg c2, if_neg fun h => c2 (hpr.mp h).2.2, Int.mul_zero]
      · rw [if_neg c1, if_neg fun h => c1 (hpr.mp h).2.1, Int.zero_mul]
  rw [e2, sI_add, sI_one hi] at e1
  show w (i / m) * w' (i % m) = 1 - sI (List.range (n * m)) (fun j => if prd m q p j i = true then w (j / m) * w' (j % m) else 0)
  omega
theorem sum_prd : sI (List.range (n * m)) (fun i => w (i / m) * w' (i % m)) = sI (List.range n) w * sI (List.range m) w' := by
  rw [sI_prod (F := fun a b => w a * w' b), ← sI_mulR]
  exact sI_cg fun a _ => sI_mul
theorem rk_prd (hn : ∀ x, x < n → rk x < 30) (hm : ∀ x, x < m → rk' x < 30) (h1 : Rk n q rk) (h2 : Rk m p rk') : Rk (n * m) (prd m q p) fun i => rk (i / m) + rk' (i % m) := by
  have hdm : ∀ i, i < n * m → i / m < n ∧ i % m < m := fun i hi => by
    have h0 : 0 < m := Nat.pos_of_ne_zero fun e => by rw [e] at hi; omega
    exact ⟨Nat.div_lt_of_lt_mul (by rw [Nat.mul_comm]; omega), Nat.mod_lt _ h0⟩
  refine ⟨fun i j hi hj h => ?_, fun i hi => ?_⟩
  · obtain ⟨a1, a2⟩ := hdm i hi
    obtain ⟨b1, b2⟩ := hdm j hj
    unfold prd at h
    simp only [Bool.and_eq_true, Bool.or_eq_true, decide_eq_true_eq, Bool.not_eq_true', decide_eq_false_iff_not] at h
    obtain ⟨⟨c, d⟩, e⟩ := h
    show rk (i / m) + rk' (i % m) < rk (j / m) + rk' (j % m)
    rcases d with d | d
    · rcases e with e | e
      · exact absurd (by rw [← Nat.div_add_mod i m, ← Nat.div_add_mod j m, d, e]) c
      · have := h2.up _ _ a2 b2 e
        rw [d]; omega
    · have := h1.up _ _ a1 b1 d
      rcases e with e | e
      · rw [e]; omega
      · have := h2.up _ _ a2 b2 e
        omega
  · obtain ⟨a1, a2⟩ := hdm i hi
    have := hn _ a1
    have := hm _ a2
    show rk (i / m) + rk' (i % m) < 64
    omega
end
end K58.K56

namespace K58.K56
open PySem L2 Z V K06 K07 K58
open PySem.Spec PyProof.Rows
variable [Tabs]
set_option synthInstance.maxHeartbeats 0
set_option synthInstance.maxSize 1000000
local macro_rules | `(tactic| decreasing_trivial_pre_omega) => `(tactic| first
  | (with_reducible refine E1.imp ?_)
  | ((with_reducible refine rng1_n ?_ ?_); omega)
  | ((with_reducible refine rng2_n ?_ ?_ ?_); omega; omega)
  | ((with_reducible refine o_subN ?_ ?_); omega)
  | ((with_reducible refine o_mulN ?_ ?_); omega)
  | ((with_reducible refine o_divN ?_ ?_ ?_); omega; omega)
  | ((with_reducible refine o_modN ?_ ?_); omega)
  | ((with_reducible refine o_shl1 ?_ ?_); omega)
  | ((with_reducible refine ix_rngL ?_ ?_); omega)
  | ((with_reducible refine ix_tab ?_ ?_); omega)
  | ((with_reducible refine ix_mapL ?_ ?_); omega)
  | ((with_reducible refine ix_mapT ?_ ?_); omega)
  | ((with_reducible refine o_modIN ?_ ?_); omega)
  | ((with_reducible refine o_divIN ?_ ?_ ?_); omega; omega)
  | ((with_reducible refine o_mulIN ?_ ?_); omega)
  | ((with_reducible refine o_mulNI ?_ ?_); omega)
  | ((with_reducible refine o_mulNN ?_ ?_); omega)
  | ((with_reducible refine o_mul1 ?_ ?_); omega)
  | ((with_reducible refine o_mulC ?_ ?_); omega)
  | ((with_reducible refine br_dt ?_ ?_); omega)
  | ((with_reducible refine br_df ?_ ?_); omega)
  | ((with_reducible refine o_addT ?_ ?_); (focus (simp [bigN]; done)))
  | ((with_reducible refine o_addL ?_ ?_); (focus (simp [bigN]; done)))
  | ((with_reducible refine br_dt ?_ ?_); exact rfl)
  | ((with_reducible refine br_df ?_ ?_); exact Bool.false_ne_true)
  | ((with_reducible refine br_df ?_ ?_); exact (fun h => Bool.false_ne_true h.symm))
  | ((with_reducible refine w_xis_t ?_ ?_); decide +kernel)
  | ((with_reducible refine w_xis_f ?_ ?_); decide +kernel)
  | ((with_reducible refine w_xf1 ?_ ?_); decide +kernel)
  | ((with_reducible refine tryq_t ?_ ?_ ?_); (focus (simp; done)); decide +kernel; dsimp only [List.set])
  | ((with_reducible refine tryq_f ?_ ?_ ?_); (focus (simp; done)); decide +kernel))
section
variable {K K' : Nat} {c d : Nat → Nat} {S : Sto} {R : XV → Sto → Prop} {Q : D → Sto → Prop}
theorem pad {L : Nat} (h : Top c K) (hL : K ≤ L) : (List.range K).map c ++ List.replicate (L - K) 0 = (List.range L).map c := by
  obtain ⟨e, rfl⟩ := Nat.le.dest hL
  rw [List.range_add, List.map_append, List.map_map, show K + e - K = e by omega]
  congr 1
  refine List.ext_getElem (by simp) fun i g1 g2 => ?_
  rw [List.getElem_replicate, List.getElem_map, List.getElem_range]
  show 0 = c (K + i)
  exact (h.no _ (Nat.le_add_right K i)).symm
theorem w_added (h1 : Top c K) (h2 : Top d K') (hK : K ≤ 64) (hK' : K' ≤ 64) (k : Q (.tup (((List.range (max K K')).map fun k => c k + d k).map dN)) S) : W (F__law_added [.lst (((List.range K).map c).map dN), .lst (((List.range K').map d).map dN)] S) R Q := by
  refine go__law_added ?_
  have p1 := pad (L := max K K') h1 (by omega)
  have p2 := pad (L := max K K') h2 (by omega)
  obtain ⟨A, hA⟩ : ∃ A, (List.range K).map c = A := ⟨_, rfl⟩
  obtain ⟨A', hA'⟩ : ∃ A, (List.range K').map d = A := ⟨_, rfl⟩
  have hl : A.length = K := by rw [← hA]; simp
  have hl' : A'.length = K' := by rw [← hA']; simp
  rw [hA] at p1
  rw [hA'] at p2
  rw [hA, hA']
  obtain ⟨L, hL⟩ : ∃ L, max K K' = L := ⟨_, rfl⟩
  rw [hL] at p1 p2 k
  have hL2 : L ≤ 64 := by omega
  (repeat decreasing_trivial_pre_omega)
  rw [hl, hl', hL]
  have e1 : List.replicate (L - K) (dN 0) = (List.replicate (L - K) 0).map dN := by rw [List.map_replicate]
  have e2 : List.replicate (L - K') (dN 0) = (List.replicate (L - K') 0).map dN := by rw [List.map_replicate]
  rw [e1]
  refine o_addL (by simp [bigN]; omega) ?_
  rw [← List.map_append, p1]
  (repeat decreasing_trivial_pre_omega)
  rw [hl', e2]
  refine o_addL (by simp [bigN]; omega) ?_
  rw [← List.map_append, p2]
  (repeat decreasing_trivial_pre_omega)
  refine lc_map (L := List.range L) (mk := dN) (v := fun k => dN (c k + d k)) (by simp [bigN]; omega) (fun k hk => ?_) ?_
  · have hk := List.mem_range.mp hk
    dsimp only [wipeE, List.set]
    (repeat decreasing_trivial_pre_omega)
    refine ix_gen (xs := ((List.range L).map c).map dN) rfl (d := dN (c k)) (by rw [List.getElem?_map, List.getElem?_map, List.getElem?_range hk]; rfl) ?_
    (repeat decreasing_trivial_pre_omega)
    refine ix_gen (xs := ((List.range L).map d).map dN) rfl (d := dN (d k)) (by rw [List.getElem?_map, List.getElem?_map, List.getElem?_range hk]; rfl) ?_
    (repeat decreasing_trivial_pre_omega)
    exact ⟨rfl, rfl⟩
  rw [show ((List.range L).map fun k => dN (c k + d k)) = ((List.range L).map fun k => c k + d k).map dN by rw [List.map_map]; rfl]
  refine w_ok (a := .lst (((List.range L).map fun k => c k + d k).map dN)) rfl ?_
  (repeat decreasing_trivial_pre_omega)
  exact fin_p0 (cl_nats _) k
end
end K58.K56

namespace K58.K56
open PySem L2 Z V K06 K07 K58
open PySem.Spec PyProof.Rows
variable [Tabs]
set_option synthInstance.maxHeartbeats 0
set_option synthInstance.maxSize 1000000
local macro_rules | `(tactic| decreasing_trivial_pre_omega) => `(tactic| first
  | ((with_reducible refine ix_less ?_ ?_); omega)
  | ((with_reducible refine ix_rowB ?_ ?_); omega)
  | (with_reducible refine len_less ?_)
  | (with_reducible refine E1.imp ?_)
  | ((with_reducible refine rng1_n ?_ ?_); omega)
  | ((with_reducible refine rng2_n ?_ ?_ ?_); omega; omega)
  | ((with_reducible refine o_subN ?_ ?_); omega)
  | ((with_reducible refine o_mulN ?_ ?_); omega)
  | ((with_reducible refine o_divN ?_ ?_ ?_); omega; omega)
  | ((with_reducible refine o_modN ?_ ?_); omega)
  | ((with_reducible refine o_shl1 ?_ ?_); omega)
  | ((with_reducible refine ix_rngL ?_ ?_); omega)
  | ((with_reducible refine ix_tab ?_ ?_); omega)
  | ((with_reducible refine ix_mapL ?_ ?_); omega)
  | ((with_reducible refine ix_mapT ?_ ?_); omega)
  | ((with_reducible refine o_modIN ?_ ?_); omega)
  | ((with_reducible refine o_divIN ?_ ?_ ?_); omega; omega)
  | ((with_reducible refine o_mulIN ?_ ?_); omega)
  | ((with_reducible refine o_mulNI ?_ ?_); omega)
  | ((with_reducible refine o_mulNN ?_ ?_); omega)
  | ((with_reducible refine o_mul1 ?_ ?_); omega)
  | ((with_reducible refine o_mulC ?_ ?_); omega)
  | ((with_reducible refine br_dt ?_ ?_); omega)
  | ((with_reducible refine br_df ?_ ?_); omega)
  | ((with_reducible refine o_addT ?_ ?_); (focus (simp [bigN]; done)))
  | ((with_reducible refine o_addL ?_ ?_); (focus (simp [bigN]; done)))
  | ((with_reducible refine br_dt ?_ ?_); exact rfl)
  | ((with_reducible refine br_df ?_ ?_); exact Bool.false_ne_true)
  | ((with_reducible refine br_df ?_ ?_); exact (fun h => Bool.false_ne_true h.symm))
  | ((with_reducible refine w_xis_t ?_ ?_); decide +kernel)
  | ((with_reducible refine w_xis_f ?_ ?_); decide +kernel)
  | ((with_reducible refine w_xf1 ?_ ?_); decide +kernel)
  | ((with_reducible refine tryq_t ?_ ?_ ?_); (focus (simp; done)); decide +kernel; dsimp only [List.set])
  | ((with_reducible refine tryq_f ?_ ?_ ?_); (focus (simp; done)); decide +kernel))
theorem sI_mid {α : Type} {l : List α} {f b : α → Int} (h : ∀ x ∈ l, - b x ≤ f x ∧ f x ≤ b x) : - sI l b ≤ sI l f ∧ sI l f ≤ sI l b := by
  induction l with
  | nil => exact ⟨Int.le_refl _, Int.le_refl _⟩
  | cons x l ih =>
    have h1 := h x List.mem_cons_self
    have h2 := ih fun y hy => h y (List.mem_cons_of_mem _ hy)
    rw [sI_cons, sI_cons]
    omega
theorem pow_sum : ∀ x : Nat, sI (List.range x) (fun y => ((2 ^ y : Nat) : Int)) = ((2 ^ x : Nat) : Int) - 1
  | 0 => rfl
  | x + 1 => by
    rw [List.range_succ, sI_app, pow_sum x, sI_cons, sI_nil, Nat.pow_succ]
    omega
theorem low_sum {n x : Nat} (hx : x ≤ n) : sI (List.range n) (fun y => if decide (y < x) = true then ((2 ^ y : Nat) : Int) else 0) = ((2 ^ x : Nat) : Int) - 1 := by
  rw [← pow_sum x, ← sI_filter]
  congr 1
  refine asc_ext (List.Pairwise.filter _ List.pairwise_lt_range) List.pairwise_lt_range fun a => ?_
  rw [List.mem_filter, List.mem_range, List.mem_range, decide_eq_true_eq]
  omega
theorem wg_small {n : Nat} {r : Nat → Nat → Bool} {h : Nat → Int} (hU : Up n r) (hW : Wg n r h) : ∀ (k x : Nat), x < n → x < k → - ((2 ^ x : Nat) : Int) ≤ h x ∧ h x ≤ ((2 ^ x : Nat) : Int)
  | 0, _, _, hk => by omega
  | k + 1, x, hx, hk => by
    have hm := sI_mid (l := List.range n) (f := fun y => if r y x = true then h y else 0) (b := fun y => if decide (y < x) = true then ((2 ^ y : Nat) : Int) else 0) fun y hy => by
      show - (if decide (y < x) = true then ((2 ^ y : Nat) : Int) else 0) ≤ (if r y x = true then h y else 0) ∧ (if r y x = true then h y else 0) ≤ if decide (y < x) = true then ((2 ^ y : Nat) : Int) else 0
      by_cases e : r y x = true
      · have hyx := (hU.lt y x e).1
        rw [if_pos e, decide_eq_true hyx, if_pos rfl]
        exact wg_small hU hW k y (List.mem_range.mp hy) (by omega)
      · rw [if_neg e]
        have h0 : (0 : Int) ≤ ((2 ^ y : Nat) : Int) := Int.natCast_nonneg _
        split
        · exact ⟨Int.neg_nonpos_of_nonneg h0, h0⟩
        · exact ⟨Int.le_refl _, Int.le_refl _⟩
    rw [low_sum (by omega)] at hm
    rw [hW x hx]
    omega
theorem due_small {n : Nat} {r : Nat → Nat → Bool} {h : Nat → Int} {due : Int} (hn : n ≤ 7) (hU : Up n r) (hW : Wg n r h) (hd : sI (List.range n) h = due) : -18446744073709551616 < due ∧ due < 18446744073709551616 := by
  have hm := sI_mid (l := List.range n) (f := h) (b := fun y => ((2 ^ y : Nat) : Int)) fun y hy => wg_small hU hW (y + 1) y (List.mem_range.mp hy) (Nat.lt_succ_self _)
  have hp : 2 ^ n ≤ 2 ^ 7 := Nat.pow_le_pow_right (by decide) hn
  rw [pow_sum, hd] at hm
  have h7 : 2 ^ 7 = 128 := by decide
  omega
theorem pair_ok {a b : Nat} {qa qb : Nat → Nat → Bool} {w w' : Nat → Int} {rk rk' : Nat → Nat} {due due2 : Int} {S : Sto} {QF : Fl → Sto → Prop} {x0 x1 x2 x3 x4 x5 x6 x9 x10 : Option D} (ha : a ≤ 7) (hb : b ≤ 7) (h1 : Rk a qa rk) (h2 : Rk b qb rk') (k1 : ∀ x, x < a → rk x < 30) (k2 : ∀ x, x < b → rk' x < 30) (w1 : Wg a qa w) (w2 : Wg b qb w') (s1 : sI (List.range a) w + sI (List.range b) w' = due + due2) (s2 : sI (List.range a) w * sI (List.range b) w' = due * due2) (hsm : -18446744073709551616 < due ∧ due < 18446744073709551616) (k : QF (.next [x0, x1, x2, x3, x4, x5, x6, some (.int due), some (.int due2), x9, x10, some (ordD a (canon a qa)), some (ordD b (canon b qb))]) S) : X ((zSeq (zIfS (zNot (zTru (zCallF 2 (F__law_same 8) (zCons (zCallF 1 F_euler (zCons (zCallF 2 F_beside (zCons (zVar 11) (zCons (zVar 12) zNil))) zNil)) (zCons (zOp dAdd (zVar 7) (zVar 8)) zNil))))) (zRet (zC (.bl false))) zNext)
    (zIfS (zNot (zTru (zCallF 2 (F__law_same 8) (zCons (zCallK 1 F_euler [0] zNil (zCons (zCallK 2 F_product [1, 0] zNil (zCons (zVar 12) (zCons (zVar 11) zNil))) zNil)) (zCons (zOp dMul (zVar 7) (zVar 8)) zNil))))) (zRet (zC (.bl false))) zNext)) [x0, x1, x2, x3, x4, x5, x6, some (.int due), some (.int due2), x9, x10, some (ordD a (canon a qa)), some (ordD b (canon b qb))] S) QF := by
  have irr : ∀ {a : Nat} {qa : Nat → Nat → Bool} {rk : Nat → Nat}, Rk a qa rk → ∀ x, x < a → qa x x = false := fun {a qa rk} h x hx => by
    cases e : qa x x with
    | false => rfl
    | true => exact absurd (h.up x x hx hx e) (Nat.lt_irrefl _)
  have hab : a * b ≤ 7 * 7 := Nat.mul_le_mul ha hb
  (repeat decreasing_trivial_pre_omega)
  refine w_ok (K07.eval_beside (show a + b ≤ 64 by omega) qa qb S) ?_
  (repeat decreasing_trivial_pre_omega)
  refine euler_is (show a + b ≤ 64 by omega) (rk_bes h1 h2) (wg_bes w1 w2) (sum_bes.trans s1) ?_
  (repeat decreasing_trivial_pre_omega)
  refine same_int ?_
  (repeat decreasing_trivial_pre_omega)
  refine w_ok (K07.eval_product (by omega) (by omega) (show a * b ≤ 64 by omega) qa qb S) ?_
  (repeat decreasing_trivial_pre_omega)
  refine euler_is (show a * b ≤ 64 by omega) (rk_prd k1 k2 h1 h2) (wg_prd (irr h1) (irr h2) w1 w2) (sum_prd.trans s2) ?_
  (repeat decreasing_trivial_pre_omega)
  refine o_mulII hsm ?_
  (repeat decreasing_trivial_pre_omega)
  refine same_int ?_
  (repeat decreasing_trivial_pre_omega)
  exact k
/-- what the law asks of two orders, when they are drawn -/
theorem law_tail {ns : List Int} {n m : Nat} {r r2 : Nat → Nat → Bool} {x4 : Option D} {t : Tp} (hn : n ≤ 7) (hm : m ≤ 7) (hU : Up n r) (hU2 : Up m r2) : X ((zSeq (zSet 5 (zCallF 2 F__law_told (zCons (zVar 2) (zCons (zCallF 2 F__law_shuffled (zCons (zVar 1) (zCons (zCall dLen (zCons (zVar 2) zNil)) zNil))) zNil))))
    (zSeq (zSet 6 (zCallF 2 F__law_told (zCons (zVar 3) (zCons (zCallF 2 F__law_shuffled (zCons (zVar 1) (zCons (zCall dLen (zCons (zVar 3) zNil)) zNil))) zNil))))
    (zSeq (zSet 7 (zCall dSum (zCons (zCallF 1 F__law_signs (zCons (zVar 2) zNil)) zNil)))
    (zSeq (zSet 8 (zCall dSum (zCons (zCallF 1 F__law_signs (zCons (zVar 3) zNil)) zNil)))
    (zSeq (zFor (zSrc (zLst (zCons (zTup (zCons (zVar 5) (zCons (zVar 6) zNil))) (zCons (zTup (zCons (zVar 6) (zCons (zVar 5) zNil))) zNil)))) (zgTup 2 (zgCons (zgName 11) (zgCons (zgName 12) zgNil))) (zSeq (zIfS (zNot (zTru (zCallF 2 (F__law_same 8) (zCons (zCallF 1 F_euler (zCons (zCallF 2 F_beside (zCons (zVar 11) (zCons (zVar 12) zNil))) zNil)) (zCons (zOp dAdd (zVar 7) (zVar 8)) zNil))))) (zRet (zC (.bl false))) zNext)
    (zIfS (zNot (zTru (zCallF 2 (F__law_same 8) (zCons (zCallK 1 F_euler [0] zNil (zCons (zCallK 2 F_product [1, 0] zNil (zCons (zVar 12) (zCons (zVar 11) zNil))) zNil)) (zCons (zOp dMul (zVar 7) (zVar 8)) zNil))))) (zRet (zC (.bl false))) zNext)))
    (zSeq (zSet 9 (zCallF 2 F__law_product (zCons (zVar 2) (zCons (zVar 3) zNil))))
    (zSeq (zSet 10 (zCallF 2 F__law_told (zCons (zVar 9) (zCons (zCallF 2 F__law_shuffled (zCons (zVar 1) (zCons (zCall dLen (zCons (zVar 9) zNil)) zNil))) zNil))))
    (zSeq (zIfS (zNot (zTru (zCallF 2 (F__law_same 8) (zCons (zCallF 1 F_euler (zCons (zVar 10) zNil)) (zCons (zOp dMul (zVar 7) (zVar 8)) zNil))))) (zRet (zC (.bl false))) zNext)
    (zSeq (zIfS (zOr (zNot (zTru (zCallF 2 (F__law_same 8) (zCons (zCallF 1 F_euler (zCons (zVar 5) zNil)) (zCons (zVar 7) zNil))))) (zNot (zTru (zCallF 2 (F__law_same 8) (zCons (zCallF 1 F_euler (zCons (zVar 6) zNil)) (zCons (zVar 8) zNil)))))) (zRet (zC (.bl false))) zNext)
    (zRet (zCallF 2 (F__law_same 8) (zCons (zCallF 1 F_chain_counts (zCons (zCallF 2 F_beside (zCons (zVar 5) (zCons (zVar 6) zNil))) zNil)) (zCons (zCallF 2 F__law_added (zCons (zCallF 1 F__law_counts (zCons (zVar 2) zNil)) (zCons (zCallF 1 F__law_counts (zCons (zVar 3) zNil)) zNil))) zNil))))))))))))) [some (.rol ns), some (.ptr 0), some (lessD n r), some (lessD m r2), x4, none, none, none, none, none, none, none, none] (stT t [])) (FinQ 0 [] N0 fun d _ => d = D.bl true) := by
  (repeat decreasing_trivial_pre_omega)
  refine w_shuffled (by omega) fun l1 t1 hp1 => ?_
  have hl1 := Nm.of hp1
  (repeat decreasing_trivial_pre_omega)
  refine w_told (by omega) hl1 ?_
  (repeat decreasing_trivial_pre_omega)
  refine w_shuffled (by omega) fun l2 t2 hp2 => ?_
  have hl2 := Nm.of hp2
  (repeat decreasing_trivial_pre_omega)
  refine w_told (by omega) hl2 ?_
  have hW := wg_ex hU
  have hW2 := wg_ex hU2
  obtain ⟨h, hh⟩ : ∃ h, gK n r n = h := ⟨_, rfl⟩
  obtain ⟨h2, hh2⟩ : ∃ h, gK m r2 m = h := ⟨_, rfl⟩
  rw [hh] at hW
  rw [hh2] at hW2
  obtain ⟨due, hdue⟩ : ∃ due, sI (List.range n) h = due := ⟨_, rfl⟩
  obtain ⟨due2, hdue2⟩ : ∃ due, sI (List.range m) h2 = due := ⟨_, rfl⟩
  (repeat decreasing_trivial_pre_omega)
  refine w_signs (by omega) hU hW ?_
  (repeat decreasing_trivial_pre_omega)
  refine b_sumZ ?_
  rw [show ((List.range n).map h).sum = due from hdue]
  (repeat decreasing_trivial_pre_omega)
  refine w_signs (by omega) hU2 hW2 ?_
  (repeat decreasing_trivial_pre_omega)
  refine b_sumZ ?_
  rw [show ((List.range m).map h2).sum = due2 from hdue2]
  have hsm := due_small hn hU hW hdue
  have body : ∀ (x4 x9 x10 : Option D) (S : Sto) (QF : Fl → Sto → Prop) (b : Bool), (∀ y11 y12, QF (.next [some (.rol ns), some (.ptr 0), some (lessD n r), some (lessD m r2), x4, some (ordD n (canon n (nmR n l1 r))), some (ordD m (canon m (nmR m l2 r2))), some (.int due), some (.int due2), x9, x10, y11, y12]) S) → X ((zSeq (zIfS (zNot (zTru (zCallF 2 (F__law_same 8) (zCons (zCallF 1 F_euler (zCons (zCallF 2 F_beside (zCons (zVar 11) (zCons (zVar 12) zNil))) zNil)) (zCons (zOp dAdd (zVar 7) (zVar 8)) zNil))))) (zRet (zC (.bl false))) zNext)
    (zIfS (zNot (zTru (zCallF 2 (F__law_same 8) (zCons (zCallK 1 F_euler [0] zNil (zCons (zCallK 2 F_product [1, 0] zNil (zCons (zVar 12) (zCons (zVar 11) zNil))) zNil)) (zCons (zOp dMul (zVar 7) (zVar 8)) zNil))))) (zRet (zC (.bl false))) zNext)) [some (.rol ns), some (.ptr 0), some (lessD n r), some (lessD m r2), x4, some (ordD n (canon n (nmR n l1 r))), some (ordD m (canon m (nmR m l2 r2))), some (.int due), some (.int due2), x9, x10, some (cond b (ordD n (canon n (nmR n l1 r))) (ordD m (canon m (nmR m l2 r2)))), some (cond b (ordD m (canon m (nmR m l2 r2))) (ordD n (canon n (nmR n l1 r))))] S) QF := by
    intro x4 x9 x10 S QF b k
    have i1 : ∀ x, x < n → l1.idxOf x < 30 := fun x hx => by have := hl1.idxlt hx; omega
    have i2 : ∀ x, x < m → l2.idxOf x < 30 := fun x hx => by have := hl2.idxlt hx; omega
    have r1 := nm_rk (by omega) hU hl1
    have r3 := nm_rk (by omega) hU2 hl2
    have decreasing_trivial_pre_omega := wg_told hl1 hW
    have v2 := wg_told hl2 hW2
    have t1 : sI (List.range n) (fun a => h (l1.idxOf a)) = due := (sI_names hl1).trans hdue
    have t2 : sI (List.range m) (fun a => h2 (l2.idxOf a)) = due2 := (sI_names hl2).trans hdue2
    cases b with
    | true => exact pair_ok hn hm r1 r3 i1 i2 decreasing_trivial_pre_omega v2 (by rw [t1, t2]) (by rw [t1, t2]) hsm (k _ _)
    | false => exact pair_ok hm hn r3 r1 i2 i1 v2 decreasing_trivial_pre_omega (by rw [t1, t2, Int.add_comm]) (by rw [t1, t2, Int.mul_comm]) hsm (k _ _)
  generalize (zSeq (zIfS (zNot (zTru (zCallF 2 (F__law_same 8) (zCons (zCallF 1 F_euler (zCons (zCallF 2 F_beside (zCons (zVar 11) (zCons (zVar 12) zNil))) zNil)) (zCons (zOp dAdd (zVar 7) (zVar 8)) zNil))))) (zRet (zC (.bl false))) zNext)
    (zIfS (zNot (zTru (zCallF 2 (F__law_same 8) (zCons (zCallK 1 F_euler [0] zNil (zCons (zCallK 2 F_product [1, 0] zNil (zCons (zVar 12) (zCons (zVar 11) zNil))) zNil)) (zCons (zOp dMul (zVar 7) (zVar 8)) zNil))))) (zRet (zC (.bl false))) zNext)) = bd at body ⊢
  (repeat decreasing_trivial_pre_omega)
  refine for_l (L := [true, false]) (mk := fun b => D.tup [cond b (ordD n (canon n (nmR n l1 r))) (ordD m (canon m (nmR m l2 r2))), cond b (ordD m (canon m (nmR m l2 r2))) (ordD n (canon n (nmR n l1 r)))]) (fun L env T => T = stT t2 [] ∧ ∃ y11 y12, env = [some (.rol ns), some (.ptr 0), some (lessD n r), some (lessD m r2), x4, some (ordD n (canon n (nmR n l1 r))), some (ordD m (canon m (nmR m l2 r2))), some (.int due), some (.int due2), none, none, y11, y12]) ⟨rfl, _, _, rfl⟩ ?_ ?_
  · rintro b L env T _ ⟨rfl, y11, y12, rfl⟩
    (repeat decreasing_trivial_pre_omega)
    exact body _ _ _ _ _ b fun y11 y12 => ⟨rfl, _, _, rfl⟩
  rintro env T ⟨rfl, y11, y12, rfl⟩
  have hnm : n * m ≤ 7 * 7 := Nat.mul_le_mul hn hm
  have hP := prd_Up hU hU2
  have hrp : lessD (n * m) (prd m r r2) = lessD (n * m) fun i j => decide (j < n * m) && prd m r r2 i j := lessD_cg fun x y _ hy => by rw [decide_eq_true hy]; rfl
  have irr : ∀ {a : Nat} {q : Nat → Nat → Bool}, Up a q → ∀ x, x < a → q x x = false := fun {a q} h x hx => by
    cases e : q x x with
    | false => rfl
    | true => exact absurd (h.lt x x e).1 (Nat.lt_irrefl _)
  have wp := wg_prd (irr hU) (irr hU2) hW hW2
  have wt_of : ∀ {a : Nat} {q : Nat → Nat → Bool} {v w : Nat → Int} {tot : Int}, Up a q → Wg a q v → sI (List.range a) v = tot → Wt a q (fun _ => true) w → sI (List.range a) w = tot := fun {a q v w tot} hq hv ht hw => by
    rw [← ht]
    exact wg_same (rk := id) (fun x y _ _ h => (hq.lt x y h).1) (fun x hx => (hw x hx).trans (if_pos rfl)) hv
  have tp : ∀ w, Wt (n * m) (fun i j => decide (j < n * m) && prd m r r2 i j) (fun _ => true) w → sI (List.range (n * m)) w = due * due2 := fun w hw => by
    refine wt_of hP (v := fun i => h (i / m) * h2 (i % m)) (fun x hx => ?_) (by rw [sum_prd, hdue, hdue2]) hw
    rw [wp x hx]
    congr 1
    exact sI_cg fun y _ => by rw [decide_eq_true hx]; rfl
  (repeat decreasing_trivial_pre_omega)
  refine w_product hn hm ?_
  rw [hrp]
  obtain ⟨q, hq⟩ : ∃ q, (fun i j => decide (j < n * m) && prd m r r2 i j) = q := ⟨_, rfl⟩
  obtain ⟨N, hN⟩ : ∃ N, n * m = N := ⟨_, rfl⟩
  rw [hq] at hP tp ⊢
  rw [hN] at hP tp hnm ⊢
  (repeat decreasing_trivial_pre_omega)
  refine w_shuffled (by omega) fun l3 t3 hp3 => ?_
  have hl3 := Nm.of hp3
  (repeat decreasing_trivial_pre_omega)
  refine w_told (by omega) hl3 ?_
  (repeat decreasing_trivial_pre_omega)
  refine euler_told (by omega) hP hl3 tp ?_
  (repeat decreasing_trivial_pre_omega)
  refine o_mulII hsm ?_
  (repeat decreasing_trivial_pre_omega)
  refine same_int ?_
  (repeat decreasing_trivial_pre_omega)
  refine euler_told (by omega) hU hl1 (fun w hw => wt_of hU hW hdue hw) ?_
  (repeat decreasing_trivial_pre_omega)
  refine same_int ?_
  (repeat decreasing_trivial_pre_omega)
  refine euler_told (by omega) hU2 hl2 (fun w hw => wt_of hU2 hW2 hdue2 hw) ?_
  (repeat decreasing_trivial_pre_omega)
  refine same_int ?_
  (repeat decreasing_trivial_pre_omega)
  refine w_ok (K07.eval_beside (show n + m ≤ 64 by omega) (nmR n l1 r) (nmR m l2 r2) _) ?_
  (repeat decreasing_trivial_pre_omega)
  refine w_counts2 (show n + m ≤ 64 by omega) (rk_bes (nm_rk (by omega) hU hl1) (nm_rk (by omega) hU2 hl2)) fun K hK => ?_
  rw [cN_bes, cN_told hl1, cN_told hl2] at hK ⊢
  (repeat decreasing_trivial_pre_omega)
  refine w_lawcounts (by omega) hU fun K1 hK1 => ?_
  (repeat decreasing_trivial_pre_omega)
  refine w_lawcounts (by omega) hU2 fun K2 hK2 => ?_
  (repeat decreasing_trivial_pre_omega)
  have b1 : K1 ≤ 64 := Nat.le_of_not_lt fun q => hK1.yes 64 q (cN_zero.mpr fun x hx => en_low (rk := id) (fun x y _ _ h => (hU.lt x y h).1) 64 x hx (by show x < 64; omega))
  have b2 : K2 ≤ 64 := Nat.le_of_not_lt fun q => hK2.yes 64 q (cN_zero.mpr fun x hx => en_low (rk := id) (fun x y _ _ h => (hU2.lt x y h).1) 64 x hx (by show x < 64; omega))
  refine w_added hK1 hK2 b1 b2 ?_
  rw [hK.uniq (top_add hK1 hK2)]
  (repeat decreasing_trivial_pre_omega)
  refine same_tup (by simp; omega) ?_
  (repeat decreasing_trivial_pre_omega)
  exact fin_top rfl
theorem eval_law {ns : List Int} (hns : ns.length ≤ 63) : ∃ S, F_law [.rol ns] [] = .ok (.bl true) S := by
  suffices h : W (F_law [.rol ns] []) N0 fun d _ => d = .bl true by
    obtain ⟨d, S, e, rfl⟩ := w_ex h
    exact ⟨S, e⟩
  refine go_law ?_
  have tail : ∀ (n m : Nat) (r r2 : Nat → Nat → Bool) (x4 : Option D) (t : Tp), n ≤ 7 → m ≤ 7 → Up n r → Up m r2 → _ := fun n m r r2 x4 t h1 h2 h3 h4 => law_tail (ns := ns) (x4 := x4) (t := t) h1 h2 h3 h4
  generalize (zSeq (zSet 5 (zCallF 2 F__law_told (zCons (zVar 2) (zCons (zCallF 2 F__law_shuffled (zCons (zVar 1) (zCons (zCall dLen (zCons (zVar 2) zNil)) zNil))) zNil))))
    (zSeq (zSet 6 (zCallF 2 F__law_told (zCons (zVar 3) (zCons (zCallF 2 F__law_shuffled (zCons (zVar 1) (zCons (zCall dLen (zCons (zVar 3) zNil)) zNil))) zNil))))
    (zSeq (zSet 7 (zCall dSum (zCons (zCallF 1 F__law_signs (zCons (zVar 2) zNil)) zNil)))
    (zSeq (zSet 8 (zCall dSum (zCons (zCallF 1 F__law_signs (zCons (zVar 3) zNil)) zNil)))
    (zSeq (zFor (zSrc (zLst (zCons (zTup (zCons (zVar 5) (zCons (zVar 6) zNil))) (zCons (zTup (zCons (zVar 6) (zCons (zVar 5) zNil))) zNil)))) (zgTup 2 (zgCons (zgName 11) (zgCons (zgName 12) zgNil))) (zSeq (zIfS (zNot (zTru (zCallF 2 (F__law_same 8) (zCons (zCallF 1 F_euler (zCons (zCallF 2 F_beside (zCons (zVar 11) (zCons (zVar 12) zNil))) zNil)) (zCons (zOp dAdd (zVar 7) (zVar 8)) zNil))))) (zRet (zC (.bl false))) zNext)
    (zIfS (zNot (zTru (zCallF 2 (F__law_same 8) (zCons (zCallK 1 F_euler [0] zNil (zCons (zCallK 2 F_product [1, 0] zNil (zCons (zVar 12) (zCons (zVar 11) zNil))) zNil)) (zCons (zOp dMul (zVar 7) (zVar 8)) zNil))))) (zRet (zC (.bl false))) zNext)))
    (zSeq (zSet 9 (zCallF 2 F__law_product (zCons (zVar 2) (zCons (zVar 3) zNil))))
    (zSeq (zSet 10 (zCallF 2 F__law_told (zCons (zVar 9) (zCons (zCallF 2 F__law_shuffled (zCons (zVar 1) (zCons (zCall dLen (zCons (zVar 9) zNil)) zNil))) zNil))))
    (zSeq (zIfS (zNot (zTru (zCallF 2 (F__law_same 8) (zCons (zCallF 1 F_euler (zCons (zVar 10) zNil)) (zCons (zOp dMul (zVar 7) (zVar 8)) zNil))))) (zRet (zC (.bl false))) zNext)
    (zSeq (zIfS (zOr (zNot (zTru (zCallF 2 (F__law_same 8) (zCons (zCallF 1 F_euler (zCons (zVar 5) zNil)) (zCons (zVar 7) zNil))))) (zNot (zTru (zCallF 2 (F__law_same 8) (zCons (zCallF 1 F_euler (zCons (zVar 6) zNil)) (zCons (zVar 8) zNil)))))) (zRet (zC (.bl false))) zNext)
    (zRet (zCallF 2 (F__law_same 8) (zCons (zCallF 1 F_chain_counts (zCons (zCallF 2 F_beside (zCons (zVar 5) (zCons (zVar 6) zNil))) zNil)) (zCons (zCallF 2 F__law_added (zCons (zCallF 1 F__law_counts (zCons (zVar 2) zNil)) (zCons (zCallF 1 F__law_counts (zCons (zVar 3) zNil)) zNil))) zNil))))))))))))) = tl at tail ⊢
  (repeat decreasing_trivial_pre_omega)
  refine w_tape fun t0 => ?_
  (repeat decreasing_trivial_pre_omega)
  refine w_drawn (by omega) fun n r t1 hn hU => ?_
  (repeat decreasing_trivial_pre_omega)
  refine w_drawn (by omega) fun m r2 t2 hm hU2 => ?_
  (repeat decreasing_trivial_pre_omega)
  refine for_r (fun i env T => T = stT t2 [] ∧ ∃ x4 n m r r2, env = [some (.rol ns), some (.ptr 0), some (lessD n r), some (lessD m r2), x4, none, none, none, none, none, none, none, none] ∧ n ≤ 7 ∧ m ≤ 7 ∧ Up n r ∧ Up m r2) ⟨rfl, _, n, m, r, r2, rfl, hn, hm, hU, hU2⟩ ?_ ?_
  · rintro i hi env T ⟨rfl, x4, n, m, r, r2, rfl, hn, hm, hU, hU2⟩
    have hnm : n * m ≤ 7 * 7 := Nat.mul_le_mul hn hm
    (repeat decreasing_trivial_pre_omega)
    refine w_product hn hm ?_
    (repeat decreasing_trivial_pre_omega)
    refine w_ways (by omega) fun j => ?_
    (repeat decreasing_trivial_pre_omega)
    refine br_d (fun h => ?_) (fun h => ?_)
    · (repeat decreasing_trivial_pre_omega)
      exact tail n m r r2 _ t2 hn hm hU hU2
    · (repeat decreasing_trivial_pre_omega)
      refine w_first (by omega) (by omega) ?_
      (repeat decreasing_trivial_pre_omega)
      refine ⟨_, _, rfl, ?_⟩
      (repeat decreasing_trivial_pre_omega)
      exact ⟨rfl, _, m, n / 2, r2, restR (n / 2) r, rfl, hm, by omega, hU2, rest_Up hU⟩
  · rintro env T ⟨rfl, x4, n, m, r, r2, rfl, hn, hm, hU, hU2⟩
    exact tail n m r r2 _ t2 hn hm hU hU2
end K58.K56

namespace K58.K56
open PySem L2 Z K06 K07 K58
open PySem.Spec PyProof.Rows
theorem all_mk {w : World} {K : PySem.W.Frag} {h : Heap} {mg : Str → Option Value} {fa f0 f1 f2 f3 f4 f5 f6 f7 f8 f9 f10 f11 f12 f13 f14 f15 f16 f17 f18 f19 f20 f21 f22 f23 f24 f25 : Addr} (X : K.In h) (G : h.Ns mainGlobals mg) (hfa : mg "law" = some (.ref fa)) (own : ∀ nm ∈ (["_moved"] : List Str), ∃ c P, TabD mg h nm c P)
    {od0 an0 od1 an1 od2 an2 od3 an3 od4 an4 od5 an5 od6 an6 od7 an7 od8 an8 od9 an9 od10 an10 od11 an11 od12 an12 od13 an13 od14 an14 od15 an15 od16 an16 od17 an17 od18 an18 od19 an19 od20 an20 od21 an21 od22 an22 od23 an23 od24 an24 od25 an25 : Option Addr} {sl0 sl1 sl2 sl3 sl4 sl5 sl6 sl7 sl8 sl9 sl10 sl11 sl12 sl13 sl14 sl15 sl16 sl17 sl18 sl19 sl20 sl21 sl22 sl23 sl24 sl25 : Array (Option Value)} {oc0 kV0 dc0 pm0 cd0 ct0 oc1 kV1 dc1 pm1 cd1 ct1 oc2 kV2 dc2 pm2 cd2 ct2 oc3 kV3 dc3 pm3 cd3 ct3 oc4 kV4 dc4 pm4 cd4 ct4 oc5 kV5 dc5 pm5 cd5 ct5 oc6 kV6 dc6 pm6 cd6 ct6 oc7 kV7 dc7 pm7 cd7 ct7 oc8 kV8 dc8 pm8 cd8 ct8 oc9 kV9 dc9 pm9 cd9 ct9 oc10 kV10 dc10 pm10 cd10 ct10 oc11 kV11 dc11 pm11 cd11 ct11 oc12 kV12 dc12 pm12 cd12 ct12 oc13 kV13 dc13 pm13 cd13 ct13 oc14 kV14 dc14 pm14 cd14 ct14 oc15 kV15 dc15 pm15 cd15 ct15 oc16 kV16 dc16 pm16 cd16 ct16 oc17 kV17 dc17 pm17 cd17 ct17 oc18 kV18 dc18 pm18 cd18 ct18 oc19 kV19 dc19 pm19 cd19 ct19 oc20 kV20 dc20 pm20 cd20 ct20 oc21 kV21 dc21 pm21 cd21 ct21 oc22 kV22 dc22 pm22 cd22 ct22 oc23 kV23 dc23 pm23 cd23 ct23 oc24 kV24 dc24 pm24 cd24 ct24 oc25 kV25 dc25 pm25 cd25 ct25 : Value} {tMMOST_POINTS : Tok}
    (a0 : PySem.W.nsIn K mainGlobals "lowest_bit" = some (some (.ref f0)))
    (l0 : K.lookup f0 = some ⟨oc0, od0, .func (PySem.W.fnOf "lowest_bit" "lowest_bit" (defArgs (topS 4)) (defBody (topS 4)) (defScope (topS 4)) .none kV0 dc0 pm0 an0 cd0 ct0), sl0⟩) (c0 : PySem.W.codeIn K cd0 "lowest_bit" = true) (k0 : PySem.W.keepIn K (.ref f0) = true)
    (a1 : PySem.W.nsIn K mainGlobals "masks_above" = some (some (.ref f1)))
    (l1 : K.lookup f1 = some ⟨oc1, od1, .func (PySem.W.fnOf "masks_above" "masks_above" (defArgs (topS 6)) (defBody (topS 6)) (defScope (topS 6)) .none kV1 dc1 pm1 an1 cd1 ct1), sl1⟩) (c1 : PySem.W.codeIn K cd1 "masks_above" = true) (k1 : PySem.W.keepIn K (.ref f1) = true)
    (a2 : PySem.W.nsIn K mainGlobals "masks_below" = some (some (.ref f2)))
    (l2 : K.lookup f2 = some ⟨oc2, od2, .func (PySem.W.fnOf "masks_below" "masks_below" (defArgs (topS 7)) (defBody (topS 7)) (defScope (topS 7)) .none kV2 dc2 pm2 an2 cd2 ct2), sl2⟩) (c2 : PySem.W.codeIn K cd2 "masks_below" = true) (k2 : PySem.W.keepIn K (.ref f2) = true)
    (a3 : PySem.W.nsIn K mainGlobals "with_selves" = some (some (.ref f3)))
    (l3 : K.lookup f3 = some ⟨oc3, od3, .func (PySem.W.fnOf "with_selves" "with_selves" (defArgs (topS 8)) (defBody (topS 8)) (defScope (topS 8)) .none kV3 dc3 pm3 an3 cd3 ct3), sl3⟩) (c3 : PySem.W.codeIn K cd3 "with_selves" = true) (k3 : PySem.W.keepIn K (.ref f3) = true)
    (a4 : PySem.W.nsIn K mainGlobals "_law_tape" = some (some (.ref f4)))
    (l4 : K.lookup f4 = some ⟨oc4, od4, .func (PySem.W.fnOf "_law_tape" "_law_tape" (defArgs (topS 19)) (defBody (topS 19)) (defScope (topS 19)) .none kV4 dc4 pm4 an4 cd4 ct4), sl4⟩) (c4 : PySem.W.codeIn K cd4 "_law_tape" = true) (k4 : PySem.W.keepIn K (.ref f4) = true)
    (a5 : PySem.W.nsIn K mainGlobals "_law_load" = some (some (.ref f5)))
    (l5 : K.lookup f5 = some ⟨oc5, od5, .func (PySem.W.fnOf "_law_load" "_law_load" (defArgs (topS 20)) (defBody (topS 20)) (defScope (topS 20)) .none kV5 dc5 pm5 an5 cd5 ct5), sl5⟩) (c5 : PySem.W.codeIn K cd5 "_law_load" = true) (k5 : PySem.W.keepIn K (.ref f5) = true)
    (a6 : PySem.W.nsIn K mainGlobals "_law_closed" = some (some (.ref f6)))
    (l6 : K.lookup f6 = some ⟨oc6, od6, .func (PySem.W.fnOf "_law_closed" "_law_closed" (defArgs (topS 24)) (defBody (topS 24)) (defScope (topS 24)) .none kV6 dc6 pm6 an6 cd6 ct6), sl6⟩) (c6 : PySem.W.codeIn K cd6 "_law_closed" = true) (k6 : PySem.W.keepIn K (.ref f6) = true)
    (a7 : PySem.W.nsIn K mainGlobals "_law_told" = some (some (.ref f7)))
    (l7 : K.lookup f7 = some ⟨oc7, od7, .func (PySem.W.fnOf "_law_told" "_law_told" (defArgs (topS 26)) (defBody (topS 26)) (defScope (topS 26)) .none kV7 dc7 pm7 an7 cd7 ct7), sl7⟩) (c7 : PySem.W.codeIn K cd7 "_law_told" = true) (k7 : PySem.W.keepIn K (.ref f7) = true)
    (a8 : PySem.W.nsIn K mainGlobals "_law_signs" = some (some (.ref f8)))
    (l8 : K.lookup f8 = some ⟨oc8, od8, .func (PySem.W.fnOf "_law_signs" "_law_signs" (defArgs (topS 27)) (defBody (topS 27)) (defScope (topS 27)) .none kV8 dc8 pm8 an8 cd8 ct8), sl8⟩) (c8 : PySem.W.codeIn K cd8 "_law_signs" = true) (k8 : PySem.W.keepIn K (.ref f8) = true)
    (a9 : PySem.W.nsIn K mainGlobals "_law_ways" = some (some (.ref f9)))
    (l9 : K.lookup f9 = some ⟨oc9, od9, .func (PySem.W.fnOf "_law_ways" "_law_ways" (defArgs (topS 28)) (defBody (topS 28)) (defScope (topS 28)) .none kV9 dc9 pm9 an9 cd9 ct9), sl9⟩) (c9 : PySem.W.codeIn K cd9 "_law_ways" = true) (k9 : PySem.W.keepIn K (.ref f9) = true)
    (a10 : PySem.W.nsIn K mainGlobals "_law_first" = some (some (.ref f10)))
    (l10 : K.lookup f10 = some ⟨oc10, od10, .func (PySem.W.fnOf "_law_first" "_law_first" (defArgs (topS 29)) (defBody (topS 29)) (defScope (topS 29)) .none kV10 dc10 pm10 an10 cd10 ct10), sl10⟩) (c10 : PySem.W.codeIn K cd10 "_law_first" = true) (k10 : PySem.W.keepIn K (.ref f10) = true)
    (a11 : PySem.W.nsIn K mainGlobals "_law_product" = some (some (.ref f11)))
    (l11 : K.lookup f11 = some ⟨oc11, od11, .func (PySem.W.fnOf "_law_product" "_law_product" (defArgs (topS 30)) (defBody (topS 30)) (defScope (topS 30)) .none kV11 dc11 pm11 an11 cd11 ct11), sl11⟩) (c11 : PySem.W.codeIn K cd11 "_law_product" = true) (k11 : PySem.W.keepIn K (.ref f11) = true)
    (a12 : PySem.W.nsIn K mainGlobals "_law_counts" = some (some (.ref f12)))
    (l12 : K.lookup f12 = some ⟨oc12, od12, .func (PySem.W.fnOf "_law_counts" "_law_counts" (defArgs (topS 31)) (defBody (topS 31)) (defScope (topS 31)) .none kV12 dc12 pm12 an12 cd12 ct12), sl12⟩) (c12 : PySem.W.codeIn K cd12 "_law_counts" = true) (k12 : PySem.W.keepIn K (.ref f12) = true)
    (a13 : PySem.W.nsIn K mainGlobals "_law_added" = some (some (.ref f13)))
    (l13 : K.lookup f13 = some ⟨oc13, od13, .func (PySem.W.fnOf "_law_added" "_law_added" (defArgs (topS 32)) (defBody (topS 32)) (defScope (topS 32)) .none kV13 dc13 pm13 an13 cd13 ct13), sl13⟩) (c13 : PySem.W.codeIn K cd13 "_law_added" = true) (k13 : PySem.W.keepIn K (.ref f13) = true)
    (a14 : PySem.W.nsIn K mainGlobals "bits_of" = some (some (.ref f14)))
    (l14 : K.lookup f14 = some ⟨oc14, od14, .func (PySem.W.fnOf "bits_of" "bits_of" (defArgs (topS 5)) (defBody (topS 5)) (defScope (topS 5)) .none kV14 dc14 pm14 an14 cd14 ct14), sl14⟩) (c14 : PySem.W.codeIn K cd14 "bits_of" = true) (k14 : PySem.W.keepIn K (.ref f14) = true)
    (a15 : PySem.W.nsIn K mainGlobals "_law_draw" = some (some (.ref f15)))
    (l15 : K.lookup f15 = some ⟨oc15, od15, .func (PySem.W.fnOf "_law_draw" "_law_draw" (defArgs (topS 21)) (defBody (topS 21)) (defScope (topS 21)) .none kV15 dc15 pm15 an15 cd15 ct15), sl15⟩) (c15 : PySem.W.codeIn K cd15 "_law_draw" = true) (k15 : PySem.W.keepIn K (.ref f15) = true)
    (a16 : PySem.W.nsIn K mainGlobals "_check_size" = some (some (.ref f16)))
    (l16 : K.lookup f16 = some ⟨oc16, od16, .func (PySem.W.fnOf "_check_size" "_check_size" (defArgs (topS 11)) (defBody (topS 11)) (defScope (topS 11)) .none kV16 dc16 pm16 an16 cd16 ct16), sl16⟩) (c16 : PySem.W.codeIn K cd16 "_check_size" = true) (k16 : PySem.W.keepIn K (.ref f16) = true)
    (a17 : PySem.W.nsIn K mainGlobals "chain_counts" = some (some (.ref f17)))
    (l17 : K.lookup f17 = some ⟨oc17, od17, .func (PySem.W.fnOf "chain_counts" "chain_counts" (defArgs (topS 16)) (defBody (topS 16)) (defScope (topS 16)) .none kV17 dc17 pm17 an17 cd17 ct17), sl17⟩) (c17 : PySem.W.codeIn K cd17 "chain_counts" = true) (k17 : PySem.W.keepIn K (.ref f17) = true)
    (a18 : PySem.W.nsIn K mainGlobals "_law_shuffled" = some (some (.ref f18)))
    (l18 : K.lookup f18 = some ⟨oc18, od18, .func (PySem.W.fnOf "_law_shuffled" "_law_shuffled" (defArgs (topS 23)) (defBody (topS 23)) (defScope (topS 23)) .none kV18 dc18 pm18 an18 cd18 ct18), sl18⟩) (c18 : PySem.W.codeIn K cd18 "_law_shuffled" = true) (k18 : PySem.W.keepIn K (.ref f18) = true)
    (a19 : PySem.W.nsIn K mainGlobals "_law_drawn" = some (some (.ref f19)))
    (l19 : K.lookup f19 = some ⟨oc19, od19, .func (PySem.W.fnOf "_law_drawn" "_law_drawn" (defArgs (topS 25)) (defBody (topS 25)) (defScope (topS 25)) .none kV19 dc19 pm19 an19 cd19 ct19), sl19⟩) (c19 : PySem.W.codeIn K cd19 "_law_drawn" = true) (k19 : PySem.W.keepIn K (.ref f19) = true)
    (a20 : PySem.W.nsIn K mainGlobals "product" = some (some (.ref f20)))
    (l20 : K.lookup f20 = some ⟨oc20, od20, .func (PySem.W.fnOf "product" "product" (defArgs (topS 14)) (defBody (topS 14)) (defScope (topS 14)) .none kV20 dc20 pm20 an20 cd20 ct20), sl20⟩) (c20 : PySem.W.codeIn K cd20 "product" = true) (k20 : PySem.W.keepIn K (.ref f20) = true)
    (a21 : PySem.W.nsIn K mainGlobals "euler" = some (some (.ref f21)))
    (l21 : K.lookup f21 = some ⟨oc21, od21, .func (PySem.W.fnOf "euler" "euler" (defArgs (topS 17)) (defBody (topS 17)) (defScope (topS 17)) .none kV21 dc21 pm21 an21 cd21 ct21), sl21⟩) (c21 : PySem.W.codeIn K cd21 "euler" = true) (k21 : PySem.W.keepIn K (.ref f21) = true)
    (a22 : PySem.W.nsIn K mainGlobals "_moved" = some (some (.ref f22)))
    (l22 : K.lookup f22 = some ⟨oc22, od22, .func (PySem.W.fnOf "_moved" "_moved" (defArgs (topS 13)) (defBody (topS 13)) (defScope (topS 13)) .none kV22 dc22 pm22 an22 cd22 ct22), sl22⟩) (c22 : PySem.W.codeIn K cd22 "_moved" = true) (k22 : PySem.W.keepIn K (.ref f22) = true)
    (a23 : PySem.W.nsIn K mainGlobals "_law_same" = some (some (.ref f23)))
    (l23 : K.lookup f23 = some ⟨oc23, od23, .func (PySem.W.fnOf "_law_same" "_law_same" (defArgs (topS 22)) (defBody (topS 22)) (defScope (topS 22)) .none kV23 dc23 pm23 an23 cd23 ct23), sl23⟩) (c23 : PySem.W.codeIn K cd23 "_law_same" = true) (k23 : PySem.W.keepIn K (.ref f23) = true)
    (a24 : PySem.W.nsIn K mainGlobals "beside" = some (some (.ref f24)))
    (l24 : K.lookup f24 = some ⟨oc24, od24, .func (PySem.W.fnOf "beside" "beside" (defArgs (topS 12)) (defBody (topS 12)) (defScope (topS 12)) .none kV24 dc24 pm24 an24 cd24 ct24), sl24⟩) (c24 : PySem.W.codeIn K cd24 "beside" = true) (k24 : PySem.W.keepIn K (.ref f24) = true)
    (a25 : PySem.W.nsIn K mainGlobals "law" = some (some (.ref f25)))
    (l25 : K.lookup f25 = some ⟨oc25, od25, .func (PySem.W.fnOf "law" "law" (defArgs (topS 33)) (defBody (topS 33)) (defScope (topS 33)) .none kV25 dc25 pm25 an25 cd25 ct25), sl25⟩) (c25 : PySem.W.codeIn K cd25 "law" = true) (k25 : PySem.W.keepIn K (.ref f25) = true)
    (zMMOST_POINTS : PySem.W.nsIn K mainGlobals "MOST_POINTS" = some (some (.int 64 tMMOST_POINTS)))
    (nt : PySem.W.noTabs K = true)
    (z_len : PySem.W.nsIn K mainGlobals "len" = some none) (z_range : PySem.W.nsIn K mainGlobals "range" = some none) (z_enumerate : PySem.W.nsIn K mainGlobals "enumerate" = some none) (z_abs : PySem.W.nsIn K mainGlobals "abs" = some none) (z_int : PySem.W.nsIn K mainGlobals "int" = some none) (z_bool : PySem.W.nsIn K mainGlobals "bool" = some none) (z_tuple : PySem.W.nsIn K mainGlobals "tuple" = some none) (z_list : PySem.W.nsIn K mainGlobals "list" = some none) (z_str : PySem.W.nsIn K mainGlobals "str" = some none) (z_dict : PySem.W.nsIn K mainGlobals "dict" = some none) (z_isinstance : PySem.W.nsIn K mainGlobals "isinstance" = some none) (z_sorted : PySem.W.nsIn K mainGlobals "sorted" = some none) (z_min : PySem.W.nsIn K mainGlobals "min" = some none) (z_max : PySem.W.nsIn K mainGlobals "max" = some none) (z_reversed : PySem.W.nsIn K mainGlobals "reversed" = some none) (z_any : PySem.W.nsIn K mainGlobals "any" = some none) (z_all : PySem.W.nsIn K mainGlobals "all" = some none) (z_sum : PySem.W.nsIn K mainGlobals "sum" = some none) (z_zip : PySem.W.nsIn K mainGlobals "zip" = some none) :
    LamX.LawAtS PySem.Challenge.rw_strikecore_k56_euler_beside_and_product w K (L2.CX PySem.Challenge.pw_strikecore_k56_euler_beside_and_product w) 10 63 "script" mg fa h := by
  obtain ⟨tb, ht⟩ := tabs_of own
  letI : Tabs := ⟨(["_moved"] : List Str).map fun n => (tb n).2, fun _ => 0⟩
  have e := hfa.symm.trans (PySem.W.mg_of X G a25)
  cases e
  have B : Bi mg := ⟨PySem.W.mg_none_of X G z_len, PySem.W.mg_none_of X G z_range, PySem.W.mg_none_of X G z_enumerate, PySem.W.mg_none_of X G z_abs, PySem.W.mg_none_of X G z_int, PySem.W.mg_none_of X G z_bool, PySem.W.mg_none_of X G z_tuple, PySem.W.mg_none_of X G z_list, PySem.W.mg_none_of X G z_str, PySem.W.mg_none_of X G z_dict, PySem.W.mg_none_of X G z_isinstance, PySem.W.mg_none_of X G z_sorted, PySem.W.mg_none_of X G z_min, PySem.W.mg_none_of X G z_max, PySem.W.mg_none_of X G z_reversed, PySem.W.mg_none_of X G z_any, PySem.W.mg_none_of X G z_all, PySem.W.mg_none_of X G z_sum, PySem.W.mg_none_of X G z_zip⟩
  have GC : Gc mg := {
    MOST_POINTS := ⟨_, PySem.W.mg_of X G zMMOST_POINTS⟩
  }
  have F0 := fun_mk (st := (topS 4)) l0 c0 k0
  have b0 := F0.binds (ps := ["mask"]) fun _ _ _ _ _ _ us hl => match us, hl with | [_], _ => rfl
  have F1 := fun_mk (st := (topS 6)) l1 c1 k1
  have b1 := F1.binds (ps := ["order"]) fun _ _ _ _ _ _ us hl => match us, hl with | [_], _ => rfl
  have F2 := fun_mk (st := (topS 7)) l2 c2 k2
  have b2 := F2.binds (ps := ["order"]) fun _ _ _ _ _ _ us hl => match us, hl with | [_], _ => rfl
  have F3 := fun_mk (st := (topS 8)) l3 c3 k3
  have b3 := F3.binds (ps := ["masks"]) fun _ _ _ _ _ _ us hl => match us, hl with | [_], _ => rfl
  have F4 := fun_mk (st := (topS 19)) l4 c4 k4
  have b4 := F4.binds (ps := ["script"]) fun _ _ _ _ _ _ us hl => match us, hl with | [_], _ => rfl
  have F5 := fun_mk (st := (topS 20)) l5 c5 k5
  have b5 := F5.binds (ps := ["tape"]) fun _ _ _ _ _ _ us hl => match us, hl with | [_], _ => rfl
  have F6 := fun_mk (st := (topS 24)) l6 c6 k6
  have b6 := F6.binds (ps := ["many", "links"]) fun _ _ _ _ _ _ us hl => match us, hl with | [_, _], _ => rfl
  have F7 := fun_mk (st := (topS 26)) l7 c7 k7
  have b7 := F7.binds (ps := ["up", "names"]) fun _ _ _ _ _ _ us hl => match us, hl with | [_, _], _ => rfl
  have F8 := fun_mk (st := (topS 27)) l8 c8 k8
  have b8 := F8.binds (ps := ["up"]) fun _ _ _ _ _ _ us hl => match us, hl with | [_], _ => rfl
  have F9 := fun_mk (st := (topS 28)) l9 c9 k9
  have b9 := F9.binds (ps := ["up"]) fun _ _ _ _ _ _ us hl => match us, hl with | [_], _ => rfl
  have F10 := fun_mk (st := (topS 29)) l10 c10 k10
  have b10 := F10.binds (ps := ["up", "many"]) fun _ _ _ _ _ _ us hl => match us, hl with | [_, _], _ => rfl
  have F11 := fun_mk (st := (topS 30)) l11 c11 k11
  have b11 := F11.binds (ps := ["one", "other"]) fun _ _ _ _ _ _ us hl => match us, hl with | [_, _], _ => rfl
  have F12 := fun_mk (st := (topS 31)) l12 c12 k12
  have b12 := F12.binds (ps := ["up"]) fun _ _ _ _ _ _ us hl => match us, hl with | [_], _ => rfl
  have F13 := fun_mk (st := (topS 32)) l13 c13 k13
  have b13 := F13.binds (ps := ["one", "other"]) fun _ _ _ _ _ _ us hl => match us, hl with | [_, _], _ => rfl
  have F14 := fun_mk (st := (topS 5)) l14 c14 k14
  have b14 := F14.binds (ps := ["mask"]) fun _ _ _ _ _ _ us hl => match us, hl with | [_], _ => rfl
  have F15 := fun_mk (st := (topS 21)) l15 c15 k15
  have b15 := F15.binds (ps := ["tape", "many"]) fun _ _ _ _ _ _ us hl => match us, hl with | [_, _], _ => rfl
  have F16 := fun_mk (st := (topS 11)) l16 c16 k16
  have b16 := F16.binds (ps := ["n"]) fun _ _ _ _ _ _ us hl => match us, hl with | [_], _ => rfl
  have F17 := fun_mk (st := (topS 16)) l17 c17 k17
  have b17 := F17.binds (ps := ["order"]) fun _ _ _ _ _ _ us hl => match us, hl with | [_], _ => rfl
  have F18 := fun_mk (st := (topS 23)) l18 c18 k18
  have b18 := F18.binds (ps := ["tape", "many"]) fun _ _ _ _ _ _ us hl => match us, hl with | [_, _], _ => rfl
  have F19 := fun_mk (st := (topS 25)) l19 c19 k19
  have b19 := F19.binds (ps := ["tape", "most"]) fun _ _ _ _ _ _ us hl => match us, hl with | [_, _], _ => rfl
  have F20 := fun_mk (st := (topS 14)) l20 c20 k20
  have b20 := F20.binds (ps := ["first", "second"]) fun _ _ _ _ _ _ us hl => match us, hl with | [_, _], _ => rfl
  have F21 := fun_mk (st := (topS 17)) l21 c21 k21
  have b21 := F21.binds (ps := ["order"]) fun _ _ _ _ _ _ us hl => match us, hl with | [_], _ => rfl
  have F22 := fun_mk (st := (topS 13)) l22 c22 k22
  have b22 := F22.binds (ps := ["order", "by"]) fun _ _ _ _ _ _ us hl => match us, hl with | [_, _], _ => rfl
  have hc22 := tabD_code X (ht "_moved" (by simp)) (PySem.W.mg_of X G a22) l22 rfl
  have F23 := fun_mk (st := (topS 22)) l23 c23 k23
  have b23 := F23.binds (ps := ["actual", "due"]) fun _ _ _ _ _ _ us hl => match us, hl with | [_, _], _ => rfl
  have F24 := fun_mk (st := (topS 12)) l24 c24 k24
  have b24 := F24.binds (ps := ["first", "second"]) fun _ _ _ _ _ _ us hl => match us, hl with | [_, _], _ => rfl
  have F25 := fun_mk (st := (topS 33)) l25 c25 k25
  have b25 := F25.binds (ps := ["script"]) fun _ _ _ _ _ _ us hl => match us, hl with | [_], _ => rfl
  refine ⟨PySem.W.fnOf "law" "law" (defArgs (topS 33)) (defBody (topS 33)) (defScope (topS 33)) .none kV25 dc25 pm25 an25 cd25 ct25, (["_moved"] : List Str).map tb, spLawG K, fun p hp => ?_, fun p hp => ?_, fun p hp => ?_, fun s v => .of_eq rfl, fun H a ns hl _ hT hS => ⟨a, ns, rfl, hS, hl, fun P hP => ?_, fun _ => rfl⟩, fun base _ _ hTB => ?_⟩
  · obtain ⟨nm, hn, rfl⟩ := List.mem_map.mp hp
    obtain ⟨_, _, _, _, _, _, _, _, h6⟩ := ht nm hn
    exact h6
  · obtain ⟨nm, hn, rfl⟩ := List.mem_map.mp hp
    obtain ⟨_, _, _, _, _, _, _, _, h6⟩ := ht nm hn
    exact notab X nt h6
  · obtain ⟨nm, hn, rfl⟩ := List.mem_map.mp hp
    obtain ⟨_, _, _, _, _, _, _, h5, _⟩ := ht nm hn
    exact h5
  · obtain ⟨nm, hn, rfl⟩ := List.mem_map.mp hP
    exact hT (tb nm) (List.mem_map.mpr ⟨nm, hn, rfl⟩)
  have TB : ∀ nm ∈ (["_moved"] : List Str), GxR.TabB base mg (tb nm).1 (tb nm).2 := fun nm hn => let t := hTB (tb nm) (List.mem_map.mpr ⟨nm, hn, rfl⟩); ⟨t.code, t.bm, t.gP⟩
  have TP : ∀ nm ∈ (["_moved"] : List Str), (tb nm).2 ∈ Tabs.ad := fun nm hn => List.mem_map.mpr ⟨nm, hn, rfl⟩
  have Z_lowest_bit := fz_lowest_bit (P := PySem.Challenge.pw_strikecore_k56_euler_beside_and_product) (w := w) (base := base) B GC  (PySem.W.mg_of X G a0) F0 b0
  have Z_masks_above := fz_masks_above (P := PySem.Challenge.pw_strikecore_k56_euler_beside_and_product) (w := w) (base := base) B GC  (PySem.W.mg_of X G a1) F1 b1
  have Z_masks_below := fz_masks_below (P := PySem.Challenge.pw_strikecore_k56_euler_beside_and_product) (w := w) (base := base) B GC  (PySem.W.mg_of X G a2) F2 b2
  have Z_with_selves := fz_with_selves (P := PySem.Challenge.pw_strikecore_k56_euler_beside_and_product) (w := w) (base := base) B GC  (PySem.W.mg_of X G a3) F3 b3
  have Z__law_tape := fz__law_tape (P := PySem.Challenge.pw_strikecore_k56_euler_beside_and_product) (w := w) (base := base) B GC  (PySem.W.mg_of X G a4) F4 b4
  have Z__law_load := fz__law_load (P := PySem.Challenge.pw_strikecore_k56_euler_beside_and_product) (w := w) (base := base) B GC  (PySem.W.mg_of X G a5) F5 b5
  have Z__law_closed := fz__law_closed (P := PySem.Challenge.pw_strikecore_k56_euler_beside_and_product) (w := w) (base := base) B GC  (PySem.W.mg_of X G a6) F6 b6
  have Z__law_told := fz__law_told (P := PySem.Challenge.pw_strikecore_k56_euler_beside_and_product) (w := w) (base := base) B GC  (PySem.W.mg_of X G a7) F7 b7
  have Z__law_signs := fz__law_signs (P := PySem.Challenge.pw_strikecore_k56_euler_beside_and_product) (w := w) (base := base) B GC  (PySem.W.mg_of X G a8) F8 b8
  have Z__law_ways := fz__law_ways (P := PySem.Challenge.pw_strikecore_k56_euler_beside_and_product) (w := w) (base := base) B GC  (PySem.W.mg_of X G a9) F9 b9
  have Z__law_first := fz__law_first (P := PySem.Challenge.pw_strikecore_k56_euler_beside_and_product) (w := w) (base := base) B GC  (PySem.W.mg_of X G a10) F10 b10
  have Z__law_product := fz__law_product (P := PySem.Challenge.pw_strikecore_k56_euler_beside_and_product) (w := w) (base := base) B GC  (PySem.W.mg_of X G a11) F11 b11
  have Z__law_counts := fz__law_counts (P := PySem.Challenge.pw_strikecore_k56_euler_beside_and_product) (w := w) (base := base) B GC  (PySem.W.mg_of X G a12) F12 b12
  have Z__law_added := fz__law_added (P := PySem.Challenge.pw_strikecore_k56_euler_beside_and_product) (w := w) (base := base) B GC  (PySem.W.mg_of X G a13) F13 b13
  have Z_bits_of := fz_bits_of (P := PySem.Challenge.pw_strikecore_k56_euler_beside_and_product) (w := w) (base := base) B GC Z_lowest_bit (PySem.W.mg_of X G a14) F14 b14
  have Z__law_draw := fz__law_draw (P := PySem.Challenge.pw_strikecore_k56_euler_beside_and_product) (w := w) (base := base) B GC Z__law_load (PySem.W.mg_of X G a15) F15 b15
  have Z__check_size := fz__check_size (P := PySem.Challenge.pw_strikecore_k56_euler_beside_and_product) (w := w) (base := base) B GC  (PySem.W.mg_of X G a16) F16 b16
  have Z_chain_counts := fz_chain_counts (P := PySem.Challenge.pw_strikecore_k56_euler_beside_and_product) (w := w) (base := base) B GC Z_masks_below Z_bits_of (PySem.W.mg_of X G a17) F17 b17
  have Z__law_shuffled := fz__law_shuffled (P := PySem.Challenge.pw_strikecore_k56_euler_beside_and_product) (w := w) (base := base) B GC Z__law_draw (PySem.W.mg_of X G a18) F18 b18
  have Z__law_drawn := fz__law_drawn (P := PySem.Challenge.pw_strikecore_k56_euler_beside_and_product) (w := w) (base := base) B GC Z__law_draw Z__law_closed (PySem.W.mg_of X G a19) F19 b19
  have Z_product := fz_product (P := PySem.Challenge.pw_strikecore_k56_euler_beside_and_product) (w := w) (base := base) B GC Z__check_size Z_with_selves Z_masks_above (PySem.W.mg_of X G a20) F20 b20
  have Z_euler := fz_euler (P := PySem.Challenge.pw_strikecore_k56_euler_beside_and_product) (w := w) (base := base) B GC Z_chain_counts (PySem.W.mg_of X G a21) F21 b21
  have Z__moved := fz__moved (P := PySem.Challenge.pw_strikecore_k56_euler_beside_and_product) (w := w) (base := base) B GC (TB "_moved" (by simp)) (TP "_moved" (by simp)) hc22  (PySem.W.mg_of X G a22) F22 b22
  have Z__law_same := fz__law_same (P := PySem.Challenge.pw_strikecore_k56_euler_beside_and_product) (w := w) (base := base) B GC  (PySem.W.mg_of X G a23) F23 b23 8
  have Z_beside := fz_beside (P := PySem.Challenge.pw_strikecore_k56_euler_beside_and_product) (w := w) (base := base) B GC Z__check_size Z__moved (PySem.W.mg_of X G a24) F24 b24
  have Z_law := fz_law (P := PySem.Challenge.pw_strikecore_k56_euler_beside_and_product) (w := w) (base := base) B GC Z__law_tape Z__law_drawn Z__law_ways Z__law_product Z__law_first Z__law_told Z__law_shuffled Z__law_signs Z__law_same Z_euler Z_beside Z_product Z__law_added Z__law_counts Z_chain_counts (PySem.W.mg_of X G a25) F25 b25
  obtain ⟨f', fd', g1, g2, g3, g4⟩ := Z_law.ex
  have e := g1.symm.trans (PySem.W.mg_of X G a25)
  cases e
  obtain ⟨⟨oc, od, kV, doc, pm, an, cdv, ct, osl, e1, l, c⟩, k⟩ := g2
  have e2 := l.symm.trans l25
  rw [e1] at e2
  cases e2
  rw [e1] at g4
  exact g4.imp fun vs H Q E h => sp_lawG (fun ns hl => eval_law hl) h
end K58.K56
open PySem PySem.W
open PyProof.Rows
set_option maxHeartbeats 0 in
theorem PySem.Challenge.cw_strikecore_k56_euler_beside_and_product_holds : PySem.Challenge.rw_strikecore_k56_euler_beside_and_product.Holds := by
  w_on; o_law
  k_head; (case hw => w_witness2)
  k_fill
  refine Z.walk_ofG (l := PySem.Challenge.rw_strikecore_k56_euler_beside_and_product) (n := 63) (k := 10) (x := "script") (CX := fun w => L2.CX PySem.Challenge.pw_strikecore_k56_euler_beside_and_product w) (["_moved"] : List Str) rfl (by decide) rfl ⟨rfl, by decide, by decide⟩ (by decide +kernel) (fun w h Y => PySem.W.kIn_of Y) ?F (fun _ _ _ _ _ h => by obtain ⟨_, _, _, _, _, _, _, _, _, _, _, _, h⟩ := h; exact h)
  case F =>
    intro w mg fa h _ KX G hmg own
    refine' K58.K56.all_mk KX G hmg own ?a0 ?l0 ?c0 ?k0 ?a1 ?l1 ?c1 ?k1 ?a2 ?l2 ?c2 ?k2 ?a3 ?l3 ?c3 ?k3 ?a4 ?l4 ?c4 ?k4 ?a5 ?l5 ?c5 ?k5 ?a6 ?l6 ?c6 ?k6 ?a7 ?l7 ?c7 ?k7 ?a8 ?l8 ?c8 ?k8 ?a9 ?l9 ?c9 ?k9 ?a10 ?l10 ?c10 ?k10 ?a11 ?l11 ?c11 ?k11 ?a12 ?l12 ?c12 ?k12 ?a13 ?l13 ?c13 ?k13 ?a14 ?l14 ?c14 ?k14 ?a15 ?l15 ?c15 ?k15 ?a16 ?l16 ?c16 ?k16 ?a17 ?l17 ?c17 ?k17 ?a18 ?l18 ?c18 ?k18 ?a19 ?l19 ?c19 ?k19 ?a20 ?l20 ?c20 ?k20 ?a21 ?l21 ?c21 ?k21 ?a22 ?l22 ?c22 ?k22 ?a23 ?l23 ?c23 ?k23 ?a24 ?l24 ?c24 ?k24 ?a25 ?l25 ?c25 ?k25 ?zMMOST_POINTS ?nt ?z_len ?z_range ?z_enumerate ?z_abs ?z_int ?z_bool ?z_tuple ?z_list ?z_str ?z_dict ?z_isinstance ?z_sorted ?z_min ?z_max ?z_reversed ?z_any ?z_all ?z_sum ?z_zip
    (case a0 => k_is); (case l0 => k_is); (case c0 => k_is); (case k0 => k_is); (case a1 => k_is); (case l1 => k_is); (case c1 => k_is); (case k1 => k_is); (case a2 => k_is); (case l2 => k_is); (case c2 => k_is); (case k2 => k_is); (case a3 => k_is); (case l3 => k_is); (case c3 => k_is); (case k3 => k_is); (case a4 => k_is); (case l4 => k_is); (case c4 => k_is); (case k4 => k_is); (case a5 => k_is); (case l5 => k_is); (case c5 => k_is); (case k5 => k_is); (case a6 => k_is); (case l6 => k_is); (case c6 => k_is); (case k6 => k_is); (case a7 => k_is); (case l7 => k_is); (case c7 => k_is); (case k7 => k_is); (case a8 => k_is); (case l8 => k_is); (case c8 => k_is); (case k8 => k_is); (case a9 => k_is); (case l9 => k_is); (case c9 => k_is); (case k9 => k_is); (case a10 => k_is); (case l10 => k_is); (case c10 => k_is); (case k10 => k_is); (case a11 => k_is); (case l11 => k_is); (case c11 => k_is); (case k11 => k_is); (case a12 => k_is); (case l12 => k_is); (case c12 => k_is); (case k12 => k_is); (case a13 => k_is); (case l13 => k_is); (case c13 => k_is); (case k13 => k_is); (case a14 => k_is); (case l14 => k_is); (case c14 => k_is); (case k14 => k_is); (case a15 => k_is); (case l15 => k_is); (case c15 => k_is); (case k15 => k_is); (case a16 => k_is); (case l16 => k_is); (case c16 => k_is); (case k16 => k_is); (case a17 => k_is); (case l17 => k_is); (case c17 => k_is); (case k17 => k_is); (case a18 => k_is); (case l18 => k_is); (case c18 => k_is); (case k18 => k_is); (case a19 => k_is); (case l19 => k_is); (case c19 => k_is); (case k19 => k_is); (case a20 => k_is); (case l20 => k_is); (case c20 => k_is); (case k20 => k_is); (case a21 => k_is); (case l21 => k_is); (case c21 => k_is); (case k21 => k_is); (case a22 => k_is); (case l22 => k_is); (case c22 => k_is); (case k22 => k_is); (case a23 => k_is); (case l23 => k_is); (case c23 => k_is); (case k23 => k_is); (case a24 => k_is); (case l24 => k_is); (case c24 => k_is); (case k24 => k_is); (case a25 => k_is); (case l25 => k_is); (case c25 => k_is); (case k25 => k_is); (case zMMOST_POINTS => k_is); (case nt => kernel_rfl); (case z_len => k_is); (case z_range => k_is); (case z_enumerate => k_is); (case z_abs => k_is); (case z_int => k_is); (case z_bool => k_is); (case z_tuple => k_is); (case z_list => k_is); (case z_str => k_is); (case z_dict => k_is); (case z_isinstance => k_is); (case z_sorted => k_is); (case z_min => k_is); (case z_max => k_is); (case z_reversed => k_is); (case z_any => k_is); (case z_all => k_is); (case z_sum => k_is); (case z_zip => k_is)
