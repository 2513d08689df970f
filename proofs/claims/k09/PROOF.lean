import PyProof.Rows.All
import HandS.ForMost
import HandS.ForExc
import HandS.CallSlots
import HandS.ExcInit
import HandS.TryMany
import HandS.Wide
import HandS.WideBits
import HandS.TupAny
import HandS.TupLe
import HandS.TupMul
import HandS.Conv
import HandS.SortRule
import HandS.SortInts
import HandS.IsInst
import HandS.Flow
import HandS.Style
import HandS.RevTup
import HandS.AnyAll
import HandS.Deep
import HandS.More
import HandS.GenList
import HandS.EndOwn
import HandS.Star
import HandS.NoneIn
import HandS.Dict
import KE.GoesEnum
import HandS.Defaults
import KE.KExcIs
import HandS.ExcIs
import HandS.ExcField
import HandS.WordsExc
import PySem.Challenge.RW_strikecore_k09_least_wrong_pair
set_option Elab.async false
set_option linter.all false
set_option maxRecDepth 100000
set_option maxHeartbeats 3900000
/-! Z1: deep values over the layer's heaps; readings told by functions. -/
namespace Z
open PySem L2
open PySem.Spec PyProof.Rows

/-- the tables of code objects that may grow -/
class Tabs where ad : List Addr
/-- a deep value: ptr n is the n-th mutable object of the store; lst, tup never change any more -/
inductive D where
  | non | bl (b : Bool) | int (i : Int) | str (x : Str)
  | tup (xs : List D) | lst (xs : List D) | ptr (n : Nat) | rol (ns : List Int) | rng (lo hi : Int) | ty (n : String) | rot (xs : List D) | dct (ks : List L2.Key) (xs : List D)

/-- a mutable object's content -/
inductive C where
  | lst (xs : List D) | gone | dct (ks : List L2.Key) (xs : List D)
abbrev Sto := List C
abbrev En := List (Option D)

mutual
def Rep (K : PySem.W.Frag) (Hc : Hp) (m : List Addr) : D → V → Prop
  | .non, v => v = .non
  | .bl b, v => v = .bl b
  | .int i, v => v = .int i
  | .str x, v => v = .str x
  | .tup ds, v => ∃ a vs, v = .ref a ∧ Hc a = some (.tup vs) ∧ Reps K Hc m ds vs
  | .rot ds, v => ∃ a vs, v = .ref a ∧ SqT K Hc a vs ∧ Reps K Hc m ds vs
  | .ty n, v => v = .ty n
  | .lst ds, v => ∃ a vs, v = .ref a ∧ Hc a = some (.lst vs) ∧ Reps K Hc m ds vs
  | .ptr n, v => ∃ a, v = .ref a ∧ m[n]? = some a
  | .rol ns, v => ∃ a, v = .ref a ∧ SqL K Hc a (ns.map V.int)
  | .rng lo hi, v => ∃ a, v = .ref a ∧ Hc a = some (.rng lo hi)
  | .dct ks ds, v => ∃ a vs, v = .ref a ∧ Hc a = some (.dK (ks.zip vs)) ∧ ks.length = ds.length ∧ Reps K Hc m ds vs
def Reps (K : PySem.W.Frag) (Hc : Hp) (m : List Addr) : List D → List V → Prop
  | [], vs => vs = []
  | d :: ds, vs => ∃ v r, vs = v :: r ∧ Rep K Hc m d v ∧ Reps K Hc m ds r
end

/-- the heaps grow -/
structure Ex (m : List Addr) (Hc : Hp) (m' : List Addr) (Hc' : Hp) : Prop where
  pre : ∃ l, m' = m ++ l
  sub : Same Hc Hc'
theorem Ex.refl (m : List Addr) (Hc : Hp) : Ex m Hc m Hc := ⟨⟨[], by simp⟩, Same.refl _⟩
theorem Ex.trans {m m1 m2 : List Addr} {Hc H1 H2 : Hp} (a : Ex m Hc m1 H1) (b : Ex m1 H1 m2 H2) : Ex m Hc m2 H2 := by
  obtain ⟨⟨l, rfl⟩, s⟩ := a
  obtain ⟨⟨l2, rfl⟩, s2⟩ := b
  exact ⟨⟨l ++ l2, by simp⟩, s.trans s2⟩
theorem Ex.get {m m' : List Addr} {Hc Hc' : Hp} (a : Ex m Hc m' Hc') {n : Nat} {x : Addr} (h : m[n]? = some x) : m'[n]? = some x := by
  obtain ⟨⟨l, rfl⟩, _⟩ := a
  rw [List.getElem?_append_left (List.getElem?_eq_some_iff.mp h).1]
  exact h
theorem Same.tupT {K : PySem.W.Frag} {H H' : Hp} {a : Addr} {xs : List V} (e : Same H H') (h : SqT K H a xs) : SqT K H' a xs := by
  exact h.imp (Or.imp (e _ _) fun ⟨o, q⟩ => ⟨o, e _ _ q⟩) id
mutual
theorem Rep.mono {K : PySem.W.Frag} {Hc Hc' : Hp} {m m' : List Addr} (x : Ex m Hc m' Hc') : ∀ (d : D) (v : V), Rep K Hc m d v → Rep K Hc' m' d v
  | .non, _, h => h
  | .bl _, _, h => h
  | .int _, _, h => h
  | .str _, _, h => h
  | .tup ds, v, ⟨a, vs, e, q, r⟩ => ⟨a, vs, e, x.sub _ _ q, Reps.mono x ds vs r⟩
  | .rot ds, v, ⟨a, vs, e, q, r⟩ => ⟨a, vs, e, Same.tupT x.sub q, Reps.mono x ds vs r⟩
  | .ty _, _, h => h
  | .lst ds, v, ⟨a, vs, e, q, r⟩ => ⟨a, vs, e, x.sub _ _ q, Reps.mono x ds vs r⟩
  | .ptr n, v, ⟨a, e, q⟩ => ⟨a, e, x.get q⟩
  | .rol ns, v, ⟨a, e, q⟩ => ⟨a, e, x.sub.seq q⟩
  | .rng _ _, v, ⟨a, e, q⟩ => ⟨a, e, x.sub _ _ q⟩
  | .dct _ ds, v, ⟨a, vs, e, q, l, r⟩ => ⟨a, vs, e, x.sub _ _ q, l, Reps.mono x ds vs r⟩
theorem Reps.mono {K : PySem.W.Frag} {Hc Hc' : Hp} {m m' : List Addr} (x : Ex m Hc m' Hc') : ∀ (ds : List D) (vs : List V), Reps K Hc m ds vs → Reps K Hc' m' ds vs
  | [], _, h => h
  | d :: ds, vs, ⟨v, r, e, h1, h2⟩ => ⟨v, r, e, Rep.mono x d v h1, Reps.mono x ds r h2⟩
end
section
variable {K : PySem.W.Frag} {Hc : Hp} {m : List Addr}
theorem Reps.length : ∀ {ds : List D} {vs : List V}, Reps K Hc m ds vs → vs.length = ds.length
  | [], _, h => by cases h; rfl
  | d :: ds, _, ⟨v, r, e, _, h2⟩ => by subst e; simp [Reps.length h2]
theorem Reps.get : ∀ {ds : List D} {vs : List V} {i : Nat} {d : D}, Reps K Hc m ds vs → ds[i]? = some d → ∃ v, vs[i]? = some v ∧ Rep K Hc m d v
  | [], _, _, _, _, e => by simp at e
  | d :: ds, _, 0, _, ⟨v, r, e, h1, _⟩, h => by simp at h; subst h; subst e; exact ⟨v, rfl, h1⟩
  | d :: ds, _, i + 1, _, ⟨v, r, e, _, h2⟩, h => by
    subst e
    obtain ⟨w, p, q⟩ := Reps.get (i := i) h2 (by simpa using h)
    exact ⟨w, by simpa using p, q⟩
theorem Reps.append : ∀ {ds es : List D} {vs ws : List V}, Reps K Hc m ds vs → Reps K Hc m es ws → Reps K Hc m (ds ++ es) (vs ++ ws)
  | [], _, _, _, h, h' => by cases h; exact h'
  | d :: ds, _, _, _, ⟨v, r, e, h1, h2⟩, h' => by subst e; exact ⟨v, _, rfl, h1, Reps.append h2 h'⟩
theorem Reps.one {d : D} {v : V} (h : Rep K Hc m d v) : Reps K Hc m [d] [v] := ⟨v, [], rfl, h, rfl⟩
theorem Reps.take : ∀ {ds : List D} {vs : List V} (n : Nat), Reps K Hc m ds vs → Reps K Hc m (ds.take n) (vs.take n)
  | _, _, 0, _ => by simp [Reps]
  | [], _, n + 1, h => by cases h; rfl
  | d :: ds, _, n + 1, ⟨v, r, e, h1, h2⟩ => by subst e; exact ⟨v, _, rfl, h1, Reps.take n h2⟩
theorem Reps.drop : ∀ {ds : List D} {vs : List V} (n : Nat), Reps K Hc m ds vs → Reps K Hc m (ds.drop n) (vs.drop n)
  | _, _, 0, h => h
  | [], _, n + 1, h => by cases h; rfl
  | d :: ds, _, n + 1, ⟨v, r, e, h1, h2⟩ => by subst e; exact Reps.drop n h2
theorem Reps.set : ∀ {ds : List D} {vs : List V} (n : Nat) {d : D} {v : V}, Reps K Hc m ds vs → Rep K Hc m d v → Reps K Hc m (ds.set n d) (vs.set n v)
  | [], _, n, _, _, h, _ => by cases h; rfl
  | d :: ds, _, 0, _, _, ⟨v, r, e, h1, h2⟩, h => by subst e; exact ⟨_, _, rfl, h, h2⟩
  | d :: ds, _, n + 1, _, _, ⟨v, r, e, h1, h2⟩, h => by subst e; exact ⟨v, _, rfl, h1, Reps.set n h2 h⟩
theorem Reps.eraseIdx : ∀ {ds : List D} {vs : List V} (n : Nat), Reps K Hc m ds vs → Reps K Hc m (ds.eraseIdx n) (vs.eraseIdx n)
  | [], _, n, h => by cases h; rfl
  | d :: ds, _, 0, ⟨v, r, e, h1, h2⟩ => by subst e; exact h2
  | d :: ds, _, n + 1, ⟨v, r, e, h1, h2⟩ => by subst e; exact ⟨v, _, rfl, h1, Reps.eraseIdx n h2⟩
theorem Reps.ints : ∀ {ns : List Int} {vs : List V}, Reps K Hc m (ns.map D.int) vs → vs = ns.map V.int
  | [], _, h => h
  | n :: ns, _, ⟨v, r, e, h1, h2⟩ => by cases h1; rw [e, Reps.ints h2]; rfl
theorem reps_ints : ∀ (ns : List Int), Reps K Hc m (ns.map D.int) (ns.map V.int)
  | [] => rfl
  | n :: ns => ⟨_, _, rfl, rfl, reps_ints ns⟩
end

/-- a mutable object as it lies -/
def COk (K : PySem.W.Frag) (Hc : Hp) (m : List Addr) (H : Hp) (a : Addr) : C → Prop
  | .lst ds => Hc a = none ∧ ∃ vs, H a = some (.lst vs) ∧ Reps K Hc m ds vs
  | .gone => H a ≠ none
  | .dct ks ds => Hc a = none ∧ ∃ vs, H a = some (.dK (ks.zip vs)) ∧ ks.length = ds.length ∧ Reps K Hc m ds vs
variable [Tabs]
abbrev TabAt (fr : List (Addr × HO)) (m : List Addr) (Hc H : Hp) (P : Addr) : Prop := GxR.TabG H P ∧ Hc P = none ∧ P ∉ m ∧ ∀ p ∈ fr, p.1 ≠ P
theorem TabAt.ne_none {fr m Hc H P} (h : TabAt fr m Hc H P) {p : Addr} (hp : H p = none) : P ≠ p := fun e => by
  obtain ⟨⟨ps, q, _⟩, _⟩ := h
  rw [e, hp] at q; cases q
theorem TabAt.ne_m {fr m Hc H P} (h : TabAt fr m Hc H P) {n : Nat} {a : Addr} (hn : m[n]? = some a) : P ≠ a := fun e => h.2.2.1 (e ▸ List.mem_of_getElem? hn)
theorem TabG.upd {H : Hp} {P p : Addr} {o : HO} (h : GxR.TabG H P) (n : P ≠ p) : GxR.TabG (upd H p o) P := by
  obtain ⟨ps, q, r⟩ := h
  exact ⟨ps, by rw [upd_ne n]; exact q, r⟩
structure Zh (K : PySem.W.Frag) (fr : List (Addr × HO)) (m : List Addr) (Hc : Hp) (S : Sto) (H : Hp) : Prop where
  sub : Same Hc H
  len : m.length = S.length
  nd : m.Nodup
  cel : ∀ (n : Nat) (a : Addr) (c : C), m[n]? = some a → S[n]? = some c → COk K Hc m H a c
  frm : ∀ p ∈ fr, H p.1 = some p.2 ∧ Hc p.1 = none ∧ p.1 ∉ m
  fnd : (fr.map Prod.fst).Nodup
  tab : ∀ P ∈ Tabs.ad, TabAt fr m Hc H P
/-- what more the locals may have to keep: the error that an except suite holds -/
class Hot where
  ok : Hp → List Addr → L2.St → Prop
  free : Nat → Prop
  mono : ∀ {m m' : List Addr} {Hc Hc' : Hp} {σ : L2.St}, Ex m Hc m' Hc' → ok Hc m σ → ok Hc' m' σ
  put : ∀ {m : List Addr} {Hc : Hp} {σ : L2.St} {i : Nat} {o : Option V}, free i → ok Hc m σ → ok Hc m (σ.set i o)
instance hot0 : Hot := ⟨fun _ _ _ => True, fun _ => True, fun _ _ => trivial, fun _ _ => trivial⟩
structure Ze [Hot] (K : PySem.W.Frag) (Hc : Hp) (m : List Addr) (env : En) (σ : L2.St) : Prop where
  len : env.length = σ.length
  at_ : ∀ (i : Nat) (d : D), env[i]? = some (some d) → ∃ v : V, (σ : List (Option V))[i]? = some (some v) ∧ Rep K Hc m d v
  hot : Hot.ok Hc m σ := by exact trivial
section
variable {K : PySem.W.Frag} {fr : List (Addr × HO)} {m m' : List Addr} {Hc Hc' : Hp} {S : Sto} {H : Hp} {env : En} {σ : L2.St}
theorem Zh.there (z : Zh K fr m Hc S H) {a : Addr} (h : a ∈ m) : H a ≠ none := by
  obtain ⟨n, hn⟩ := List.getElem?_of_mem h
  have hl : n < S.length := by rw [← z.len]; exact (List.getElem?_eq_some_iff.mp hn).1
  have q := z.cel n a S[n] hn (List.getElem?_eq_getElem hl)
  cases e : S[n] with
  | lst ds => rw [e] at q; obtain ⟨_, vs, h1, _⟩ := q; rw [h1]; simp
  | gone => rw [e] at q; exact q
  | dct ks ds => rw [e] at q; obtain ⟨_, vs, h1, _⟩ := q; rw [h1]; simp
theorem Ze.mono [Hot] (x : Ex m Hc m' Hc') (z : Ze K Hc m env σ) : Ze K Hc' m' env σ :=
  ⟨z.len, fun i d e => let ⟨v, h1, h2⟩ := z.at_ i d e; ⟨v, h1, Rep.mono x d v h2⟩, Hot.mono x z.hot⟩
theorem Ze.set [Hot] (z : Ze K Hc m env σ) (i : Nat) {d : D} {v : V} (r : Rep K Hc m d v) (hf : Hot.free i := by exact trivial) : Ze K Hc m (env.set i (some d)) (σ.set i (some v)) := by
  refine ⟨by simp [z.len], fun j e h => ?_, Hot.put hf z.hot⟩
  by_cases hj : i = j
  · subst hj
    have hl : i < env.length := by
      have := (List.getElem?_eq_some_iff.mp h).1
      simpa using this
    rw [List.getElem?_set_self hl] at h
    cases h
    exact ⟨v, by rw [List.getElem?_set_self (by rw [← z.len]; exact hl)], r⟩
  · rw [List.getElem?_set_ne hj] at h
    obtain ⟨w, h1, h2⟩ := z.at_ j e h
    exact ⟨w, by rw [List.getElem?_set_ne hj]; exact h1, h2⟩
theorem Ze.unset [Hot] (z : Ze K Hc m env σ) (i : Nat) (hf : Hot.free i := by exact trivial) : Ze K Hc m (env.set i none) (σ.set i none) := by
  refine ⟨by simp [z.len], fun j e h => ?_, Hot.put hf z.hot⟩
  by_cases hj : i = j
  · subst hj
    by_cases hl : i < env.length
    · rw [List.getElem?_set_self hl] at h; cases h
    · rw [List.getElem?_eq_none (by simpa using hl)] at h; cases h
  · rw [List.getElem?_set_ne hj] at h
    obtain ⟨w, h1, h2⟩ := z.at_ j e h
    exact ⟨w, by rw [List.getElem?_set_ne hj]; exact h1, h2⟩
theorem COk.mono (x : Ex m Hc m' Hc') {a : Addr} {H' : Hp} (hc : Hc' a = none ∨ ∃ o, Hc a = some o) (hH : H' a = H a) : ∀ {c : C}, COk K Hc m H a c → COk K Hc' m' H' a c
  | .lst ds, ⟨h0, vs, h1, h2⟩ => by
    refine ⟨?_, vs, by rw [hH]; exact h1, Reps.mono x ds vs h2⟩
    rcases hc with h | ⟨o, h⟩
    · exact h
    · rw [h] at h0; cases h0
  | .gone, h => by show H' a ≠ none; rw [hH]; exact h
  | .dct ks ds, ⟨h0, vs, h1, h2, h3⟩ => by
    refine ⟨?_, vs, by rw [hH]; exact h1, h2, Reps.mono x ds vs h3⟩
    rcases hc with h | ⟨o, h⟩
    · exact h
    · rw [h] at h0; cases h0
/-- a new object goes into the core -/
theorem Zh.new (z : Zh K fr m Hc S H) {p : Addr} {o : HO} (hp : H p = none) : Zh K fr m (upd Hc p o) S (upd H p o) ∧ Ex m Hc m (upd Hc p o) := by
  have hc : Hc p = none := z.sub.free hp
  have x : Ex m Hc m (upd Hc p o) := ⟨⟨[], by simp⟩, fun b u e => by rw [upd_ne (ne_of_none e hc)]; exact e⟩
  refine ⟨⟨fun b u e => ?_, z.len, z.nd, fun n a c h1 h2 => ?_, fun q hq => ?_, z.fnd, fun P hP => let h := z.tab P hP; ⟨TabG.upd h.1 (h.ne_none hp), by rw [upd_ne (h.ne_none hp)]; exact h.2.1, h.2.2⟩⟩, x⟩
  · by_cases hb : b = p
    · subst hb; rw [upd_same] at e ⊢; exact e
    · rw [upd_ne hb] at e ⊢; exact z.sub b u e
  · have na : a ≠ p := fun e => z.there (List.mem_of_getElem? h1) (by rw [e]; exact hp)
    have q := z.cel n a c h1 h2
    refine COk.mono x ?_ (upd_ne na) q
    cases e : Hc a with
    | none => exact .inl (by rw [upd_ne na]; exact e)
    | some u => exact .inr ⟨u, rfl⟩
  · obtain ⟨h1, h2, h3⟩ := z.frm q hq
    have nq : q.1 ≠ p := ne_of_none h1 hp
    exact ⟨by rw [upd_ne nq]; exact h1, by rw [upd_ne nq]; exact h2, h3⟩
/-- a new mutable list -/
theorem Zh.newC (z : Zh K fr m Hc S H) {p : Addr} {ds : List D} {vs : List V} (hp : H p = none) (r : Reps K Hc m ds vs) :
    Zh K fr (m ++ [p]) Hc (S ++ [.lst ds]) (upd H p (.lst vs)) ∧ Ex m Hc (m ++ [p]) Hc := by
  have hc : Hc p = none := z.sub.free hp
  have x : Ex m Hc (m ++ [p]) Hc := ⟨⟨[p], rfl⟩, Same.refl _⟩
  have pm : p ∉ m := fun h => z.there h hp
  refine ⟨⟨fun b u e => ?_, by simp [z.len], ?_, fun n a c h1 h2 => ?_, fun q hq => ?_, z.fnd, fun P hP => let h := z.tab P hP; ⟨TabG.upd h.1 (h.ne_none hp), h.2.1, fun hm => (List.mem_append.mp hm).elim h.2.2.1 fun e => h.ne_none hp (by simpa using e), h.2.2.2⟩⟩, x⟩
  · rw [upd_ne (ne_of_none e hc)]; exact z.sub b u e
  · rw [List.nodup_append]
    refine ⟨z.nd, by simp, fun a ha b hb e => ?_⟩
    have : b = p := by simpa using hb
    subst this; subst e
    exact pm ha
  · by_cases hn : n < m.length
    · rw [List.getElem?_append_left hn] at h1
      rw [List.getElem?_append_left (by rw [← z.len]; exact hn)] at h2
      have na : a ≠ p := fun e => pm (e ▸ List.mem_of_getElem? h1)
      refine COk.mono x ?_ (upd_ne na) (z.cel n a c h1 h2)
      cases e : Hc a with
      | none => exact .inl rfl
      | some u => exact .inr ⟨u, rfl⟩
    · have hle : m.length ≤ n := Nat.le_of_not_lt hn
      rw [List.getElem?_append_right hle] at h1
      rw [List.getElem?_append_right (by rw [← z.len]; exact hle)] at h2
      have e0 : n - m.length = 0 := by
        cases e : n - m.length with
        | zero => rfl
        | succ k => rw [e] at h1; simp at h1
      rw [e0] at h1
      rw [← z.len, e0] at h2
      simp at h1 h2
      subst h1; subst h2
      exact ⟨hc, vs, upd_same, Reps.mono x ds vs r⟩
  · obtain ⟨h1, h2, h3⟩ := z.frm q hq
    refine ⟨by rw [upd_ne (ne_of_none h1 hp)]; exact h1, h2, fun hm => ?_⟩
    rcases List.mem_append.mp hm with h | h
    · exact h3 h
    · have : q.1 = p := by simpa using h
      rw [this, hp] at h1; cases h1
theorem nd_ix {m : List Addr} (hN : m.Nodup) {i j : Nat} {x : Addr} (a : m[i]? = some x) (b : m[j]? = some x) : i = j := by
  exact (List.getElem?_inj (List.getElem?_eq_some_iff.mp a).1 hN).mp (a.trans b.symm)
/-- a mutable list is changed -/
theorem Zh.wr (z : Zh K fr m Hc S H) {n : Nat} {a : Addr} {ds es : List D} {vs : List V} (hn : m[n]? = some a) (hs : S[n]? = some (.lst ds)) (r : Reps K Hc m es vs) :
    Zh K fr m Hc (S.set n (.lst es)) (upd H a (.lst vs)) := by
  obtain ⟨hc, ws, hH, _⟩ := z.cel n a _ hn hs
  have x := Ex.refl m Hc
  refine ⟨fun b u e => ?_, by simp [z.len], z.nd, fun k b c h1 h2 => ?_, fun q hq => ?_, z.fnd, fun P hP => let h := z.tab P hP; ⟨TabG.upd h.1 (h.ne_m hn), h.2⟩⟩
  · rw [upd_ne (ne_of_none e hc)]; exact z.sub b u e
  · by_cases hk : n = k
    · subst hk
      have eab : b = a := Option.some.inj (h1.symm.trans hn)
      subst eab
      have hl : n < S.length := (List.getElem?_eq_some_iff.mp hs).1
      rw [List.getElem?_set_self hl] at h2
      cases h2
      exact ⟨hc, vs, upd_same, r⟩
    · rw [List.getElem?_set_ne hk] at h2
      have na : b ≠ a := fun e => hk (nd_ix z.nd hn (e ▸ h1))
      refine COk.mono x ?_ (upd_ne na) (z.cel k b c h1 h2)
      cases e : Hc b with
      | none => exact .inl rfl
      | some u => exact .inr ⟨u, rfl⟩
  · obtain ⟨h1, h2, h3⟩ := z.frm q hq
    have nq : q.1 ≠ a := fun e => h3 (e ▸ List.mem_of_getElem? hn)
    exact ⟨by rw [upd_ne nq]; exact h1, h2, h3⟩
/-- a mutable list will not change any more -/
theorem Zh.freeze (z : Zh K fr m Hc S H) {n : Nat} {a : Addr} {ds : List D} (hn : m[n]? = some a) (hs : S[n]? = some (.lst ds)) :
    ∃ Hc', Zh K fr m Hc' (S.set n .gone) H ∧ Ex m Hc m Hc' ∧ Rep K Hc' m (.lst ds) (.ref a) := by
  obtain ⟨hc, ws, hH, hr⟩ := z.cel n a _ hn hs
  have x : Ex m Hc m (upd Hc a (.lst ws)) := ⟨⟨[], by simp⟩, fun b u e => by rw [upd_ne (ne_of_none e hc)]; exact e⟩
  refine ⟨upd Hc a (.lst ws), ⟨fun b u e => ?_, by simp [z.len], z.nd, fun k b c h1 h2 => ?_, fun q hq => ?_, z.fnd, fun P hP => let h := z.tab P hP; ⟨h.1, by rw [upd_ne (h.ne_m hn)]; exact h.2.1, h.2.2⟩⟩, x, a, ws, rfl, upd_same, Reps.mono x _ _ hr⟩
  · by_cases hb : b = a
    · subst hb; rw [upd_same] at e; rw [hH]; exact e
    · rw [upd_ne hb] at e; exact z.sub b u e
  · by_cases hk : n = k
    · subst hk
      have eab : b = a := Option.some.inj (h1.symm.trans hn)
      subst eab
      have hl : n < S.length := (List.getElem?_eq_some_iff.mp hs).1
      rw [List.getElem?_set_self hl] at h2
      cases h2
      show H b ≠ none
      rw [hH]; simp
    · rw [List.getElem?_set_ne hk] at h2
      have na : b ≠ a := fun e => hk (nd_ix z.nd hn (e ▸ h1))
      refine COk.mono x ?_ rfl (z.cel k b c h1 h2)
      cases e : Hc b with
      | none => exact .inl (by rw [upd_ne na]; exact e)
      | some u => exact .inr ⟨u, rfl⟩
  · obtain ⟨h1, h2, h3⟩ := z.frm q hq
    have nq : q.1 ≠ a := fun e => h3 (e ▸ List.mem_of_getElem? hn)
    exact ⟨h1, by rw [upd_ne nq]; exact h2, h3⟩
/-- an object that others leave alone -/
theorem Zh.frame (z : Zh K fr m Hc S H) {p : Addr} {o : HO} (hp : H p = none) : Zh K ((p, o) :: fr) m Hc S (upd H p o) := by
  have hc : Hc p = none := z.sub.free hp
  have pm : p ∉ m := fun h => z.there h hp
  refine ⟨fun b u e => ?_, z.len, z.nd, fun n a c h1 h2 => ?_, fun q hq => ?_, ?_, fun P hP => let h := z.tab P hP; ⟨TabG.upd h.1 (h.ne_none hp), h.2.1, h.2.2.1, fun q hq => (List.mem_cons.mp hq).elim (fun e => by rw [e]; exact Ne.symm (h.ne_none hp)) (h.2.2.2 q)⟩⟩
  · rw [upd_ne (ne_of_none e hc)]; exact z.sub b u e
  · have na : a ≠ p := fun e => pm (e ▸ List.mem_of_getElem? h1)
    refine COk.mono (Ex.refl m Hc) ?_ (upd_ne na) (z.cel n a c h1 h2)
    cases e : Hc a with
    | none => exact .inl rfl
    | some u => exact .inr ⟨u, rfl⟩
  · rcases List.mem_cons.mp hq with e | hq
    · subst e; exact ⟨upd_same, hc, pm⟩
    · obtain ⟨h1, h2, h3⟩ := z.frm q hq
      exact ⟨by rw [upd_ne (ne_of_none h1 hp)]; exact h1, h2, h3⟩
  · rw [List.map_cons, List.nodup_cons]
    refine ⟨fun h => ?_, z.fnd⟩
    obtain ⟨q, hq, e⟩ := List.mem_map.mp h
    have := (z.frm q hq).1
    rw [e] at this
    rw [hp] at this; cases this
theorem Zh.reframe {p : Addr} {o o' : HO} (z : Zh K ((p, o) :: fr) m Hc S H) : Zh K ((p, o') :: fr) m Hc S (upd H p o') := by
  obtain ⟨hH, hc, pm⟩ := z.frm (p, o) List.mem_cons_self
  have nd := z.fnd
  replace nd := List.nodup_cons.mp nd
  refine ⟨fun b u e => ?_, z.len, z.nd, fun n a c h1 h2 => ?_, fun q hq => ?_, ?_, fun P hP => let h := z.tab P hP; have np : P ≠ p := Ne.symm (h.2.2.2 (p, o) List.mem_cons_self); ⟨TabG.upd h.1 np, h.2.1, h.2.2.1, fun q hq => (List.mem_cons.mp hq).elim (fun e => by rw [e]; exact Ne.symm np) fun z => h.2.2.2 q (List.mem_cons_of_mem _ z)⟩⟩
  · rw [upd_ne (ne_of_none e hc)]; exact z.sub b u e
  · have na : a ≠ p := fun e => pm (e ▸ List.mem_of_getElem? h1)
    refine COk.mono (Ex.refl m Hc) ?_ (upd_ne na) (z.cel n a c h1 h2)
    cases e : Hc a with
    | none => exact .inl rfl
    | some u => exact .inr ⟨u, rfl⟩
  · rcases List.mem_cons.mp hq with e | hq
    · subst e; exact ⟨upd_same, hc, pm⟩
    · obtain ⟨h1, h2, h3⟩ := z.frm q (List.mem_cons_of_mem _ hq)
      have nq : q.1 ≠ p := fun e => nd.1 (List.mem_map.mpr ⟨q, hq, e⟩)
      exact ⟨by rw [upd_ne nq]; exact h1, h2, h3⟩
  · rw [List.map_cons, List.nodup_cons]; exact nd
/-- into the core -/
theorem Zh.unframe {p : Addr} {o : HO} (z : Zh K ((p, o) :: fr) m Hc S H) : Zh K fr m (upd Hc p o) S H ∧ Ex m Hc m (upd Hc p o) := by
  obtain ⟨hH, hc, pm⟩ := z.frm (p, o) List.mem_cons_self
  have nd := z.fnd
  replace nd := List.nodup_cons.mp nd
  have x : Ex m Hc m (upd Hc p o) := ⟨⟨[], by simp⟩, fun b u e => by rw [upd_ne (ne_of_none e hc)]; exact e⟩
  refine ⟨⟨fun b u e => ?_, z.len, z.nd, fun n a c h1 h2 => ?_, fun q hq => ?_, nd.2, fun P hP => let h := z.tab P hP; have np : P ≠ p := Ne.symm (h.2.2.2 (p, o) List.mem_cons_self); ⟨h.1, by rw [upd_ne np]; exact h.2.1, h.2.2.1, fun q hq => h.2.2.2 q (List.mem_cons_of_mem _ hq)⟩⟩, x⟩
  · by_cases hb : b = p
    · subst hb; rw [upd_same] at e; rw [← e]; exact hH
    · rw [upd_ne hb] at e; exact z.sub b u e
  · have na : a ≠ p := fun e => pm (e ▸ List.mem_of_getElem? h1)
    refine COk.mono x ?_ rfl (z.cel n a c h1 h2)
    cases e : Hc a with
    | none => exact .inl (by rw [upd_ne na]; exact e)
    | some u => exact .inr ⟨u, rfl⟩
  · obtain ⟨h1, h2, h3⟩ := z.frm q (List.mem_cons_of_mem _ hq)
    have nq : q.1 ≠ p := fun e => nd.1 (List.mem_map.mpr ⟨q, hq, e⟩)
    exact ⟨h1, by rw [upd_ne nq]; exact h2, h3⟩
/-- into the store -/
theorem Zh.unframeC {p : Addr} {ds : List D} {vs : List V} (z : Zh K ((p, .lst vs) :: fr) m Hc S H) (r : Reps K Hc m ds vs) : Zh K fr (m ++ [p]) Hc (S ++ [.lst ds]) H ∧ Ex m Hc (m ++ [p]) Hc := by
  obtain ⟨hH, hc, pm⟩ := z.frm (p, .lst vs) List.mem_cons_self
  have nd := z.fnd
  replace nd := List.nodup_cons.mp nd
  have x : Ex m Hc (m ++ [p]) Hc := ⟨⟨[p], rfl⟩, Same.refl _⟩
  refine ⟨⟨z.sub, by simp [z.len], ?_, fun n a c h1 h2 => ?_, fun q hq => ?_, nd.2, fun P hP => let h := z.tab P hP; have np : P ≠ p := Ne.symm (h.2.2.2 (p, .lst vs) List.mem_cons_self); ⟨h.1, h.2.1, fun hm => (List.mem_append.mp hm).elim h.2.2.1 fun e => np (by simpa using e), fun q hq => h.2.2.2 q (List.mem_cons_of_mem _ hq)⟩⟩, x⟩
  · rw [List.nodup_append]
    refine ⟨z.nd, by simp, fun a ha b hb e => ?_⟩
    have : b = p := by simpa using hb
    subst this; subst e
    exact pm ha
  · by_cases hn : n < m.length
    · rw [List.getElem?_append_left hn] at h1
      rw [List.getElem?_append_left (by rw [← z.len]; exact hn)] at h2
      refine COk.mono x ?_ rfl (z.cel n a c h1 h2)
      cases e : Hc a with
      | none => exact .inl rfl
      | some u => exact .inr ⟨u, rfl⟩
    · have hle : m.length ≤ n := Nat.le_of_not_lt hn
      rw [List.getElem?_append_right hle] at h1
      rw [List.getElem?_append_right (by rw [← z.len]; exact hle)] at h2
      have e0 : n - m.length = 0 := by
        cases e : n - m.length with
        | zero => rfl
        | succ k => rw [e] at h1; simp at h1
      rw [e0] at h1
      rw [← z.len, e0] at h2
      simp at h1 h2
      subst h1; subst h2
      exact ⟨hc, vs, hH, Reps.mono x ds vs r⟩
  · obtain ⟨h1, h2, h3⟩ := z.frm q (List.mem_cons_of_mem _ hq)
    have nq : q.1 ≠ p := fun e => nd.1 (List.mem_map.mpr ⟨q, hq, e⟩)
    refine ⟨h1, h2, fun hm => ?_⟩
    rcases List.mem_append.mp hm with h | h
    · exact h3 h
    · exact nq (by simpa using h)
/-- a table has grown -/
theorem Zh.tabbed {P : Addr} {H2 : Hp} (z : Zh K fr m Hc S H) (hP : P ∈ Tabs.ad) (t : GxR.Tabbed P H H2) : Zh K fr m Hc S H2 := by
  obtain ⟨tg, same⟩ := t
  have h := z.tab P hP
  refine ⟨fun b u e => ?_, z.len, z.nd, fun n a c h1 h2 => ?_, fun q hq => ?_, z.fnd, fun P' hP' => ?_⟩
  · have nb : b ≠ P := fun q => by rw [q, h.2.1] at e; cases e
    rw [same b nb]; exact z.sub b u e
  · refine COk.mono (Ex.refl m Hc) ?_ (same a (Ne.symm (h.ne_m h1))) (z.cel n a c h1 h2)
    cases e : Hc a with
    | none => exact .inl rfl
    | some u => exact .inr ⟨u, rfl⟩
  · obtain ⟨h1, h2, h3⟩ := z.frm q hq
    exact ⟨by rw [same _ (h.2.2.2 q hq)]; exact h1, h2, h3⟩
  · have h' := z.tab P' hP'
    refine ⟨?_, h'.2⟩
    by_cases e : P' = P
    · rw [e]; exact tg
    · obtain ⟨ps, q, r⟩ := h'.1
      exact ⟨ps, by rw [same _ e]; exact q, r⟩
end
end Z

namespace Z
open PySem L2
open PySem.Spec PyProof.Rows
variable [Tabs] [Hot]

/-- an exception in the air: its class by name, its fields -/
structure XV where
  nm : Str
  fs : Option (List (Str × D))
inductive Rs (α : Type) where
  | ok (a : α) (S : Sto) | exc (e : XV) (S : Sto) | stk
def Rs.bnd {α β : Type} (r : Rs α) (k : α → Sto → Rs β) : Rs β :=
  match r with
  | .ok a S => k a S
  | .exc e S => .exc e S
  | .stk => .stk
@[simp] theorem Rs.bnd_ok {α β : Type} (a : α) (S : Sto) (k : α → Sto → Rs β) : (Rs.ok a S).bnd k = k a S := rfl
@[simp] theorem Rs.bnd_exc {α β : Type} (a : XV) (S : Sto) (k : α → Sto → Rs β) : (Rs.exc a S : Rs α).bnd k = .exc a S := rfl
@[simp] theorem Rs.bnd_stk {α β : Type} (k : α → Sto → Rs β) : (Rs.stk : Rs α).bnd k = .stk := rfl
abbrev EM (α : Type) := En → Sto → Rs α

abbrev Mg := Str → Option Value
abbrev WS := Value → Option Addr → Hp → Prop
def RepF (K : PySem.W.Frag) (Hc : Hp) (m : List Addr) : List (Str × D) → List (Str × V) → Prop
  | [], vs => vs = []
  | (n, d) :: ds, vs => ∃ v r, vs = (n, v) :: r ∧ Rep K Hc m d v ∧ RepF K Hc m ds r
def RepX (K : PySem.W.Frag) (mg : Mg) (Hc : Hp) (m : List Addr) (e : XV) (cls : Value) (od : Option Addr) (H : Hp) : Prop :=
  ∃ Ca, mg e.nm = some (.ref Ca) ∧ cls = .ref Ca ∧ match e.fs with
    | none => od = none
    | some fs => ∃ d vfs, od = some d ∧ Hc d = some (.xd vfs) ∧ RepF K Hc m fs vfs

def Pst {α β : Type} (K : PySem.W.Frag) (mg : Mg) (fr : List (Addr × HO)) (rel : Hp → List Addr → α → β → Prop) (m : List Addr) (Hc : Hp) (w : WS) (Q : β → Hp → Prop) : Rs α → Prop
  | .ok a S' => ∀ b m' Hc' H', Ex m Hc m' Hc' → Zh K fr m' Hc' S' H' → rel Hc' m' a b → Q b H'
  | .exc e S' => ∀ cls od m' Hc' H', Ex m Hc m' Hc' → Zh K fr m' Hc' S' H' → RepX K mg Hc' m' e cls od H' → w cls od H'
  | .stk => False
def rB : Hp → List Addr → Bool → Bool → Prop := fun _ _ a b => a = b

section
variable {α β γ δ : Type} {K : PySem.W.Frag} {mg : Mg} {fr : List (Addr × HO)} {rel : Hp → List Addr → α → β → Prop} {rel2 : Hp → List Addr → γ → δ → Prop} {m m' : List Addr} {Hc Hc' : Hp} {S : Sto} {H : Hp} {w : WS} {Q Q' : β → Hp → Prop}
theorem Pst.mono {r : Rs α} (x : Ex m Hc m' Hc') (h : Pst K mg fr rel m Hc w Q r) : Pst K mg fr rel m' Hc' w Q r := by
  cases r with
  | ok a S => exact fun b m2 H2 H' y z q => h b m2 H2 H' (x.trans y) z q
  | exc e S => exact fun c o m2 H2 H' y z q => h c o m2 H2 H' (x.trans y) z q
  | stk => exact h
/-- one thing after another -/
theorem Pst.bnd {r : Rs γ} {k : γ → Sto → Rs α} {T : δ → Hp → Prop} (h : Pst K mg fr rel m Hc w Q (r.bnd k))
    (hk : ∀ a S1 b m1 Hc1 H1, Ex m Hc m1 Hc1 → Zh K fr m1 Hc1 S1 H1 → rel2 Hc1 m1 a b → Pst K mg fr rel m1 Hc1 w Q (k a S1) → T b H1) : Pst K mg fr rel2 m Hc w T r := by
  cases r with
  | ok a S => exact fun b m1 H1 H' x z q => hk a S b m1 H1 H' x z q (Pst.mono x h)
  | exc e S => exact h
  | stk => exact h
theorem Pst.use {a : α} {b : β} (h : Pst K mg fr rel m Hc w Q (.ok a S)) (z : Zh K fr m Hc S H) (q : rel Hc m a b) : Q b H := h b m Hc H (Ex.refl _ _) z q
theorem Pst.useN {a : α} {b : β} (h : Pst K mg fr rel m Hc w Q (.ok a S)) {p : Addr} {o : HO} (z : Zh K fr m Hc S H) (hp : H p = none) (q : rel (upd Hc p o) m a b) : Q b (upd H p o) :=
  h b m _ _ (z.new hp).2 (z.new hp).1 q
end

/-! ### judgements -/
def SE (K : PySem.W.Frag) (mg : Mg) (W : WX) (t : TE) (f : EM D) : Prop :=
  ∀ fr m Hc env S σ H Q, Zh K fr m Hc S H → Ze K Hc m env σ → Pst K mg fr (fun Hc m d v => Rep K Hc m d v) m Hc (fun c o H => W c o σ H) Q (f env S) → t σ H Q
def SA (K : PySem.W.Frag) (mg : Mg) (W : WX) (t : TA) (f : EM (List D)) : Prop :=
  ∀ fr m Hc env S σ H Q, Zh K fr m Hc S H → Ze K Hc m env σ → Pst K mg fr (fun Hc m d v => Reps K Hc m d v) m Hc (fun c o H => W c o σ H) Q (f env S) → t σ H Q
def ST (K : PySem.W.Frag) (mg : Mg) (W : WX) (t : TT) (f : EM Bool) : Prop :=
  ∀ fr m Hc env S σ H Q, Zh K fr m Hc S H → Ze K Hc m env σ → Pst K mg fr rB m Hc (fun c o H => W c o σ H) Q (f env S) → t σ H Q
structure ZE (X : Cx) (W : WX) (e : Expr) (t : TE) (f : EM D) : Prop where
  pe : PE X e t
  sd : SE X.K X.mg W t f
def Arity (f : EM (List D)) (n : Nat) : Prop := ∀ env S xs S1, f env S = .ok xs S1 → xs.length = n
structure ZA (X : Cx) (W : WX) (es : List Expr) (t : TA) (f : EM (List D)) : Prop where
  pa : PA X es t
  sd : SA X.K X.mg W t f
  ar : Arity f es.length
structure ZT (X : Cx) (W : WX) (e : Expr) (t : TT) (f : EM Bool) : Prop where
  pt : PT X e t
  sd : ST X.K X.mg W t f
structure ZW (X : Cx) (W : WX) (e : Expr) (t : TT) (f : EM Bool) : Prop where
  pw : PW X e t
  sd : ST X.K X.mg W t f
theorem ZW.zt {X : Cx} {W : WX} {e : Expr} {t : TT} {f : EM Bool} (h : ZW X W e t f) : ZT X W e t f := ⟨h.pw.pt, h.sd⟩

/-! ### constants, names -/
def zVar (i : Nat) : EM D := fun env S => match env[i]? with
  | some (some d) => .ok d S
  | _ => .stk
def zC (d : D) : EM D := fun _ S => .ok d S
section
variable {X : Cx} {W : WX} {pos : Pos} {e : Expr}
theorem zc_of {d : D} {v : V} (h : PE X e (tC v)) (r : ∀ Hc m, Rep X.K Hc m d v) : ZE X W e (tC v) (zC d) :=
  ⟨h, fun fr m Hc env S σ H Q z zz p => p.use z (r Hc m)⟩
theorem ze_int {i j} : ZE X W (.Constant (.int i) j pos) (tC (.int i)) (zC (.int i)) := zc_of pe_int fun _ _ => rfl
theorem ze_bl {b j} : ZE X W (.Constant (.bool b) j pos) (tC (.bl b)) (zC (.bl b)) := zc_of pe_bl fun _ _ => rfl
theorem ze_non {j} : ZE X W (.Constant .none j pos) (tC .non) (zC .non) := zc_of pe_non fun _ _ => rfl
theorem ze_str {x j} : ZE X W (.Constant (.str x) j pos) (tC (.str x)) (zC (.str x)) := zc_of pe_str fun _ _ => rfl
theorem se_var {K mg} {i : Nat} : SE K mg W (tVar i) (zVar i) := by
  intro fr m Hc env S σ H Q z zz p
  unfold zVar at p
  cases h : env[i]? with
  | none => rw [h] at p; exact p.elim
  | some o =>
    cases o with
    | none => rw [h] at p; exact p.elim
    | some d =>
      rw [h] at p
      obtain ⟨v, h1, h2⟩ := zz.at_ i d h
      exact ⟨v, h1, p.use z h2⟩
theorem zv (i : Nat) {x : Str} (hN : X.N[i]? = some x := by rfl) (hv : Vis X.env.scope x := by first | exact Or.inl rfl | exact Or.inr (Or.inl rfl) | exact Or.inr (Or.inr rfl)) (hd : (x == ("__debug__" : Str)) = false := by decide)
    (hcd : (x == ("__classdict__" : Str)) = false := by decide) : ZE X W (.Name x pos) (tVar i) (zVar i) := ⟨pe_var hN hv hd hcd, se_var⟩
end

/-! ### two-place operations -/
def OS (K : PySem.W.Frag) (mg : Mg) (r : R2) (o : D → D → Sto → Rs D) : Prop :=
  ∀ fr m Hc S H x y dx dy w Q, Zh K fr m Hc S H → Rep K Hc m dx x → Rep K Hc m dy y → Pst K mg fr (fun Hc m d v => Rep K Hc m d v) m Hc w Q (o dx dy S) → r x y H Q
structure ZO (X : Cx) (f : Value → Value → Sem Value) (r : R2) (o : D → D → Sto → Rs D) : Prop where
  op : OpR X f r
  sd : OS X.K X.mg r o
def zOp (o : D → D → Sto → Rs D) (a b : EM D) : EM D := fun env S => (a env S).bnd fun x S1 => (b env S1).bnd fun y S2 => o x y S2
section
variable {X : Cx} {W : WX} {pos : Pos} {a b : Expr} {ta tb : TE} {fa fb : EM D} {r : R2} {o : D → D → Sto → Rs D}
theorem se_op {K mg} (sa : SE K mg W ta fa) (sb : SE K mg W tb fb) (so : OS K mg r o) : SE K mg W (tOp r ta tb) (zOp o fa fb) := by
  intro fr m Hc env S σ H Q z zz p
  refine sa fr m Hc env S σ H _ z zz (p.bnd fun x S1 v m1 Hc1 H1 x1 z1 r1 p1 => ?_)
  refine sb fr m1 Hc1 env S1 σ H1 _ z1 (Ze.mono x1 zz) (p1.bnd fun y S2 u m2 Hc2 H2 x2 z2 r2 p2 => ?_)
  exact so fr m2 Hc2 S2 H2 v u x y _ Q z2 (Rep.mono x2 _ _ r1) r2 p2
theorem ze_op {op : Operator} (ho : ZO X (binaryOp op) r o) (ha : ZE X W a ta fa) (hb : ZE X W b tb fb) : ZE X W (.BinOp a op b pos) (tOp r ta tb) (zOp o fa fb) :=
  ⟨pe_op ho.op ha.pe hb.pe, se_op ha.sd hb.sd ho.sd⟩
theorem ze_cmp {op : CmpOp} (ho : ZO X (compareOp op) r o) (ha : ZE X W a ta fa) (hb : ZE X W b tb fb) (hm : behindInMarks op b = false := by first | exact nomark _ | rfl) : ZE X W (.Compare a [op] [b] pos) (tOp r ta tb) (zOp o fa fb) :=
  ⟨pe_cmpR ho.op ha.pe hb.pe hm, se_op ha.sd hb.sd ho.sd⟩
end
/-- by an alternative -/
theorem OS.or {K mg} {r r' : R2} {o o' : D → D → Sto → Rs D} (c : D → D → Bool) (h : OS K mg r o) (h' : OS K mg r' o') : OS K mg (fun x y H Q => r x y H Q ∨ r' x y H Q) (fun x y S => if c x y = true then o x y S else o' x y S) := by
  intro fr m Hc S H x y dx dy w Q z r1 r2 p
  by_cases e : c dx dy = true
  · simp only [e, if_true] at p
    exact .inl (h fr m Hc S H x y dx dy w Q z r1 r2 p)
  · simp only [e] at p
    exact .inr (h' fr m Hc S H x y dx dy w Q z r1 r2 p)

def dI2 (c : Int → Int → Prop) [∀ i j, Decidable (c i j)] (g : Int → Int → D) : D → D → Sto → Rs D
  | .int i, .int j, S => if c i j then .ok (g i j) S else .stk
  | _, _, _ => .stk
def dI0 (g : Int → Int → D) : D → D → Sto → Rs D
  | .int i, .int j, S => .ok (g i j) S
  | _, _, _ => .stk
theorem os_I {K mg} {c c' : Int → Int → Prop} [∀ i j, Decidable (c i j)] {g : Int → Int → D} {g' : Int → Int → V} (hc : ∀ i j, c i j → c' i j) (hg : ∀ Hc m i j, c i j → Rep K Hc m (g i j) (g' i j)) : OS K mg (rI c' g') (dI2 c g) := by
  intro fr m Hc S H x y dx dy w Q z r1 r2 p
  cases dx <;> first | exact p.elim | skip
  cases dy <;> first | exact p.elim | skip
  cases r1; cases r2
  rename_i i j
  unfold dI2 at p
  by_cases e : c i j
  · simp only [e, if_true] at p
    exact ⟨i, j, rfl, rfl, hc _ _ e, p.use z (hg _ _ _ _ e)⟩
  · simp only [e] at p
    exact p.elim
theorem os_I0 {K mg} {g : Int → Int → D} {g' : Int → Int → V} (hg : ∀ Hc m i j, Rep K Hc m (g i j) (g' i j)) : OS K mg (rI0 g') (dI0 g) := by
  intro fr m Hc S H x y dx dy w Q z r1 r2 p
  cases dx <;> first | exact p.elim | skip
  cases dy <;> first | exact p.elim | skip
  cases r1; cases r2
  exact ⟨_, _, rfl, rfl, p.use z (hg _ _ _ _)⟩
end Z

namespace Z
open PySem L2
open PySem.Spec PyProof.Rows
variable [Tabs] [Hot]

/-! ### lists and tuples that are read -/
def seqOf (d : D) (S : Sto) : Option (List D) := match d with
  | .lst ds => some ds
  | .rol ns => some (ns.map D.int)
  | .ptr n => match S[n]? with
    | some (.lst ds) => some ds
    | _ => none
  | _ => none
def anyOf (d : D) (S : Sto) : Option (List D) := match d with
  | .tup ds => some ds
  | .rot ds => some ds
  | _ => seqOf d S
section
variable {K : PySem.W.Frag} {fr : List (Addr × HO)} {m : List Addr} {Hc : Hp} {S : Sto} {H : Hp}
theorem Zh.seq (z : Zh K fr m Hc S H) {d : D} {v : V} {ds : List D} (r : Rep K Hc m d v) (e : seqOf d S = some ds) : ∃ a vs, v = .ref a ∧ SqL K H a vs ∧ Reps K Hc m ds vs := by
  cases d with
  | lst es =>
    cases e
    obtain ⟨a, vs, e1, q, rr⟩ := r
    exact ⟨a, vs, e1, .of (z.sub _ _ q), rr⟩
  | rol ns =>
    cases e
    obtain ⟨a, e1, q⟩ := r
    exact ⟨a, _, e1, z.sub.seq q, reps_ints ns⟩
  | ptr n =>
    obtain ⟨a, e1, q⟩ := r
    unfold seqOf at e
    cases h : S[n]? with
    | none => simp [h] at e
    | some c =>
      cases c with
      | gone => simp [h] at e
      | dct ks0 ds0 => simp [h] at e
      | lst es =>
        simp [h] at e
        subst e
        obtain ⟨_, vs, h1, h2⟩ := z.cel n a _ q h
        exact ⟨a, vs, e1, .of h1, h2⟩
  | _ => cases e
theorem Zh.any (z : Zh K fr m Hc S H) {d : D} {v : V} {ds : List D} (r : Rep K Hc m d v) (e : anyOf d S = some ds) : ∃ a vs, v = .ref a ∧ (SqL K H a vs ∨ SqT K H a vs) ∧ Reps K Hc m ds vs := by
  cases d with
  | tup es =>
    cases e
    obtain ⟨a, vs, e1, q, rr⟩ := r
    exact ⟨a, vs, e1, .inr (.of (z.sub _ _ q)), rr⟩
  | rot es =>
    cases e
    obtain ⟨a, vs, e1, q, rr⟩ := r
    exact ⟨a, vs, e1, .inr (Same.tupT z.sub q), rr⟩
  | _ =>
    obtain ⟨a, vs, e1, q, rr⟩ := z.seq r e
    exact ⟨a, vs, e1, .inl q, rr⟩
theorem Reps.atI {ds : List D} {vs : List V} {i : Int} {d : D} (r : Reps K Hc m ds vs) (h : L2.atI ds i = some d) : ∃ v, L2.atI vs i = some v ∧ Rep K Hc m d v := by
  have hl := r.length
  unfold L2.atI at h ⊢
  rw [hl]
  cases e : ixN ds.length i with
  | none => exact absurd h (by rw [e]; intro q; cases q)
  | some j =>
    rw [e] at h
    exact r.get h
end

/-! ### subscripts -/
def dIx (x y : D) (S : Sto) : Rs D := match y with
  | .int i => match anyOf x S with
    | some ds => match L2.atI ds i with
      | some d => .ok d S
      | none => .stk
    | none => .stk
  | _ => .stk
theorem os_ix {K mg} : OS K mg (rIx K) dIx := by
  intro fr m Hc S H x y dx dy w Q z r1 r2 p
  unfold dIx at p
  cases dy <;> first | exact p.elim | skip
  rename_i i
  cases r2
  cases e : anyOf dx S with
  | none => simp [e] at p; exact p.elim
  | some ds =>
    simp only [e] at p
    cases e2 : L2.atI ds i with
    | none => simp [e2] at p; exact p.elim
    | some d =>
      simp only [e2] at p
      obtain ⟨a, vs, rfl, q, rr⟩ := z.any r1 e
      obtain ⟨v, h1, h2⟩ := rr.atI e2
      rcases q with q | q
      · exact .inl ⟨a, vs, i, v, rfl, rfl, q, h1, p.use z h2⟩
      · exact .inr (.inl ⟨a, vs, i, v, rfl, rfl, q, h1, p.use z h2⟩)
section
variable {X : Cx} {W : WX} {pos : Pos} {a b : Expr} {ta tb : TE} {fa fb : EM D}
theorem ze_ix (ha : ZE X W a ta fa) (hb : ZE X W b tb fb) (hs : PlainIx b := by exact fun _ _ => rfl) : ZE X W (.Subscript a b pos) (tOp (rIx X.K) ta tb) (zOp dIx fa fb) :=
  ⟨pe_ix ix_seq ha.pe hb.pe hs, se_op ha.sd hb.sd os_ix⟩
end
theorem get_list {X : Cx} : PGet X (rIxL X.K) := by
  intro ps s σ H ov iv vv ii Q inv ro ri ⟨a, ys, k, d, e1, e2, sq, at_, fit⟩
  subst e1 e2
  cases ro
  obtain ⟨tk, rfl⟩ := ri
  obtain ⟨its, rel, plain, _⟩ := inv.list sq
  obtain ⟨j, six, gj, lj, low, top⟩ := atI_get at_
  obtain ⟨w, gw, rw2⟩ := rel.get gj
  have hl := rel.length
  have hn := line63
  have done : EP X ps σ Q w s := ⟨d, H, inv, rw2, fit⟩
  rcases Int.lt_or_le k 0 with neg | pos
  · rw [seqIndex_neg neg low, hl] at six
    have ej : (k + (its.toArray.size : Int)).toNat = j := by
      rw [List.size_toArray]; exact Option.some.inj six
    exact wpAny_getItem_list_neg plain.isList neg (by rw [List.size_toArray] <;> omega) (by omega) (by rw [ej]; simpa using gw) done
  · rw [seqIndex_of pos top] at six
    exact wpAny_getItem_list plain.isList pos (by omega) (by rw [Option.some.inj six]; simpa using gw) done

/-! ### + - * // % and the like -/
def bigN : Nat := 1000000
theorem big_le {n : Nat} (h : n ≤ bigN) : n ≤ sizeLine := Nat.le_trans h (by decide)
def dAdd (x y : D) (S : Sto) : Rs D := match x, y with
  | .int i, .int j => .ok (.int (i + j)) S
  | .str a, .str b => if a.length + b.length ≤ bigN then .ok (.str (a ++ b)) S else .stk
  | .tup xs, .tup ys => if xs.length + ys.length ≤ bigN then .ok (.tup (xs ++ ys)) S else .stk
  | .lst xs, .lst ys => if xs.length + ys.length ≤ bigN then .ok (.lst (xs ++ ys)) S else .stk
  | .ptr n, .lst ys => match S[n]? with
    | some (.lst xs) => if xs.length + ys.length ≤ bigN then .ok (.lst (xs ++ ys)) S else .stk
    | _ => .stk
  | _, _ => .stk
def rAddZ (K : PySem.W.Frag) : R2 := fun x y H Q => (rI0 fun i j => .int (i + j)) x y H Q ∨ ((∃ i j, x = .str i ∧ y = .str j ∧ i.length + j.length ≤ sizeLine ∧ Q (.str (i ++ j)) H) ∨ (rCatA K x y H Q ∨ rCat x y H Q))
theorem or_addZ {X : Cx} : OpR X (binaryOp .Add) (rAddZ X.K) := op_add.or (op_add_str.or (op_catA.or op_cat))
theorem os_add {K mg} : OS K mg (rAddZ K) dAdd := by
  intro fr m Hc S H x y dx dy w Q z r1 r2 p
  have lstCase : ∀ (xs ys : List D) (a : Addr) (vs : List V), H a = some (.lst vs) → Reps K Hc m xs vs → x = .ref a → Rep K Hc m (.lst ys) y → xs.length + ys.length ≤ bigN → Pst K mg fr (fun Hc m d v => Rep K Hc m d v) m Hc w Q (.ok (.lst (xs ++ ys)) S) → rAddZ K x y H Q := by
    intro xs ys a vs h1 h2 e r2 hl p
    obtain ⟨b, ws, e2, h3, h4⟩ := r2
    subst e e2
    refine .inr (.inr (.inr ⟨a, b, vs, ws, rfl, rfl, h1, z.sub _ _ h3, ?_, fun q hq => ?_⟩))
    · rw [h2.length, h4.length]; exact big_le hl
    · refine p.useN z hq ?_
      have x := (z.new (o := .lst (vs ++ ws)) hq).2
      exact ⟨q, _, rfl, upd_same, (Reps.mono x _ _ h2).append (Reps.mono x _ _ h4)⟩
  cases dx with
  | int i =>
    cases dy <;> first | exact p.elim | skip
    cases r1; cases r2
    exact .inl ⟨_, _, rfl, rfl, p.use z rfl⟩
  | str i =>
    cases dy <;> first | exact p.elim | skip
    rename_i j
    cases r1; cases r2
    simp only [dAdd] at p
    by_cases e : i.length + j.length ≤ bigN
    · simp only [e, if_true] at p
      exact .inr (.inl ⟨_, _, rfl, rfl, big_le e, p.use z rfl⟩)
    · simp only [e] at p; exact p.elim
  | tup xs =>
    cases dy <;> first | exact p.elim | skip
    rename_i ys
    simp only [dAdd] at p
    by_cases e : xs.length + ys.length ≤ bigN
    · simp only [e, if_true] at p
      obtain ⟨a, vs, e1, h1, h2⟩ := r1
      obtain ⟨b, ws, e2, h3, h4⟩ := r2
      subst e1 e2
      refine .inr (.inr (.inl ⟨a, b, vs, ws, rfl, rfl, .of (z.sub _ _ h1), .of (z.sub _ _ h3), ?_, fun hv => ?_, fun hv hw => ?_, fun hv hw q hq => ?_⟩))
      · rw [h2.length, h4.length]; exact big_le e
      · subst hv
        have : xs = [] := List.eq_nil_of_length_eq_zero (by rw [← h2.length]; rfl)
        subst this
        exact p.use z ⟨b, ws, rfl, h3, h4⟩
      · subst hw
        have : ys = [] := List.eq_nil_of_length_eq_zero (by rw [← h4.length]; rfl)
        subst this
        rw [List.append_nil] at p
        exact p.use z ⟨a, vs, rfl, h1, h2⟩
      · refine p.useN z hq ?_
        have x := (z.new (o := .tup (vs ++ ws)) hq).2
        exact ⟨q, _, rfl, upd_same, (Reps.mono x _ _ h2).append (Reps.mono x _ _ h4)⟩
    · simp only [e] at p; exact p.elim
  | lst xs =>
    cases dy <;> first | exact p.elim | skip
    rename_i ys
    simp only [dAdd] at p
    by_cases e : xs.length + ys.length ≤ bigN
    · simp only [e, if_true] at p
      obtain ⟨a, vs, e1, h1, h2⟩ := r1
      exact lstCase xs ys a vs (z.sub _ _ h1) h2 e1 r2 e p
    · simp only [e] at p; exact p.elim
  | ptr n =>
    cases dy <;> first | exact p.elim | skip
    rename_i ys
    simp only [dAdd] at p
    obtain ⟨a, e1, q⟩ := r1
    cases h : S[n]? with
    | none => simp [h] at p; exact p.elim
    | some c =>
      cases c with
      | gone => simp [h] at p; exact p.elim
      | dct ks0 ds0 => simp [h] at p; exact p.elim
      | lst xs =>
        simp only [h] at p
        by_cases e : xs.length + ys.length ≤ bigN
        · simp only [e, if_true] at p
          obtain ⟨_, vs, h1, h2⟩ := z.cel n a _ q h
          exact lstCase xs ys a vs h1 h2 e1 r2 e p
        · simp only [e] at p; exact p.elim
  | _ => cases dy <;> exact p.elim
theorem zo_add {X : Cx} : ZO X (binaryOp .Add) (rAddZ X.K) dAdd := ⟨or_addZ, os_add⟩
theorem zo_sub {X : Cx} : ZO X (binaryOp .Sub) (rI0 fun i j => .int (i - j)) (dI0 fun i j => .int (i - j)) := ⟨op_sub, os_I0 fun _ _ _ _ => rfl⟩
instance (i j : Int) : Decidable (CMul i j) := by unfold CMul; infer_instance
instance (i j : Int) : Decidable (CDiv i j) := by unfold CDiv; infer_instance
instance (i j : Int) : Decidable (CPow i j) := by unfold CPow; infer_instance
/-- int * int; [..] * int -/
def dMul (x y : D) (S : Sto) : Rs D := match x, y with
  | .int i, .int j => if CMul i j then .ok (.int (i * j)) S else .stk
  | .lst xs, .int k => if k ≤ 1000000 ∧ -1000000 ≤ k ∧ xs.length * k.toNat ≤ bigN then .ok (.lst (List.replicate k.toNat xs).flatten) S else .stk
  | _, _ => .stk
theorem Reps.rep {K : PySem.W.Frag} {Hc : Hp} {m : List Addr} {ds : List D} {vs : List V} (h : Reps K Hc m ds vs) : ∀ n : Nat, Reps K Hc m (List.replicate n ds).flatten (List.replicate n vs).flatten
  | 0 => rfl
  | n + 1 => by rw [List.replicate_succ, List.replicate_succ, List.flatten_cons, List.flatten_cons]; exact h.append (Reps.rep h n)
def rMulZ : R2 := fun x y H Q => (rI CMul fun i j => .int (i * j)) x y H Q ∨ rRep x y H Q
theorem os_mul {K mg} : OS K mg rMulZ dMul := by
  intro fr m Hc S H x y dx dy w Q z r1 r2 p
  cases dx with
  | int i =>
    cases dy <;> first | exact p.elim | skip
    rename_i j
    cases r1; cases r2
    simp only [dMul] at p
    by_cases e : CMul i j
    · simp only [e, if_true] at p
      exact .inl ⟨_, _, rfl, rfl, e, p.use z rfl⟩
    · simp only [e] at p; exact p.elim
  | lst xs =>
    cases dy <;> first | exact p.elim | skip
    rename_i k
    cases r2
    simp only [dMul] at p
    by_cases e : k ≤ 1000000 ∧ -1000000 ≤ k ∧ xs.length * k.toNat ≤ bigN
    · rw [if_pos e] at p
      obtain ⟨a, vs, e1, h1, h2⟩ := r1
      subst e1
      refine .inr ⟨a, k, vs, rfl, rfl, z.sub _ _ h1, by omega, by omega, by rw [h2.length]; exact big_le e.2.2, fun q hq => ?_⟩
      refine p.useN z hq ?_
      have x := (z.new (o := .lst (List.replicate k.toNat vs).flatten) hq).2
      exact ⟨q, _, rfl, upd_same, (Reps.mono x _ _ h2).rep _⟩
    · rw [if_neg e] at p; exact p.elim
  | _ => cases dy <;> exact p.elim
theorem zo_mul {X : Cx} : ZO X (binaryOp .Mult) rMulZ dMul := ⟨op_mul.or op_rep, os_mul⟩
def dDiv : D → D → Sto → Rs D := dI2 CDiv fun i j => .int (i / j)
def dMod : D → D → Sto → Rs D := dI2 (fun _ j => 0 < j) fun i j => .int (i % j)
def dShl : D → D → Sto → Rs D := dI2 CPow fun i j => .int (i * 2 ^ j.toNat)
def dShr : D → D → Sto → Rs D := dI2 (fun _ j => 0 ≤ j) fun i j => .int (i / 2 ^ j.toNat)
def dSub : D → D → Sto → Rs D := dI0 fun i j => .int (i - j)
def dAnd : D → D → Sto → Rs D := dI0 fun i j => .int (Builtin.bitAnd i j)
def dOr : D → D → Sto → Rs D := dI0 fun i j => .int (Builtin.bitOr i j)
def dXor : D → D → Sto → Rs D := dI0 fun i j => .int (Builtin.bitXor i j)
section
variable {X : Cx}
theorem zo_div : ZO X (binaryOp .FloorDiv) (rI CDiv fun i j => .int (i / j)) dDiv := ⟨op_fdiv, os_I (fun _ _ h => h) fun _ _ _ _ _ => rfl⟩
theorem zo_mod : ZO X (binaryOp .Mod) (rI (fun _ j => 0 < j) fun i j => .int (i % j)) dMod := ⟨op_mod, os_I (fun _ _ h => h) fun _ _ _ _ _ => rfl⟩
theorem zo_shl : ZO X (binaryOp .LShift) (rI CPow fun i j => .int (i * 2 ^ j.toNat)) dShl := ⟨op_shl, os_I (fun _ _ h => h) fun _ _ _ _ _ => rfl⟩
theorem zo_shr : ZO X (binaryOp .RShift) (rI (fun _ j => 0 ≤ j) fun i j => .int (i / 2 ^ j.toNat)) dShr := ⟨op_shr, os_I (fun _ _ h => h) fun _ _ _ _ _ => rfl⟩
theorem zo_and : ZO X (binaryOp .BitAnd) (rI0 fun i j => .int (Builtin.bitAnd i j)) dAnd := ⟨op_and, os_I0 fun _ _ _ _ => rfl⟩
theorem zo_or : ZO X (binaryOp .BitOr) (rI0 fun i j => .int (Builtin.bitOr i j)) dOr := ⟨op_or, os_I0 fun _ _ _ _ => rfl⟩
theorem zo_xor : ZO X (binaryOp .BitXor) (rI0 fun i j => .int (Builtin.bitXor i j)) dXor := ⟨op_xor, os_I0 fun _ _ _ _ => rfl⟩
theorem zi_add : ZO X (inplaceOp .Add) (rI0 fun i j => .int (i + j)) (dI0 fun i j => .int (i + j)) := ⟨iop_add, os_I0 fun _ _ _ _ => rfl⟩
theorem zi_sub : ZO X (inplaceOp .Sub) (rI0 fun i j => .int (i - j)) dSub := ⟨iop_sub, os_I0 fun _ _ _ _ => rfl⟩
theorem zi_and : ZO X (inplaceOp .BitAnd) (rI0 fun i j => .int (Builtin.bitAnd i j)) dAnd := ⟨iop_and, os_I0 fun _ _ _ _ => rfl⟩
theorem zi_or : ZO X (inplaceOp .BitOr) (rI0 fun i j => .int (Builtin.bitOr i j)) dOr := ⟨iop_or, os_I0 fun _ _ _ _ => rfl⟩
theorem zi_xor : ZO X (inplaceOp .BitXor) (rI0 fun i j => .int (Builtin.bitXor i j)) dXor := ⟨iop_xor, os_I0 fun _ _ _ _ => rfl⟩
/-! comparisons of ints -/
def dLt : D → D → Sto → Rs D := dI0 fun i j => .bl (decide (i < j))
def dLe : D → D → Sto → Rs D := dI0 fun i j => .bl (decide (i ≤ j))
def dGt : D → D → Sto → Rs D := dI0 fun i j => .bl (decide (j < i))
def dGe : D → D → Sto → Rs D := dI0 fun i j => .bl (decide (j ≤ i))
theorem zo_lt : ZO X (compareOp .Lt) (rI0 fun i j => .bl (decide (i < j))) dLt := ⟨op_lt, os_I0 fun _ _ _ _ => rfl⟩
theorem zo_le : ZO X (compareOp .LtE) (rI0 fun i j => .bl (decide (i ≤ j))) dLe := ⟨op_le, os_I0 fun _ _ _ _ => rfl⟩
theorem zo_gt : ZO X (compareOp .Gt) (rI0 fun i j => .bl (decide (j < i))) dGt := ⟨op_gt, os_I0 fun _ _ _ _ => rfl⟩
theorem zo_ge : ZO X (compareOp .GtE) (rI0 fun i j => .bl (decide (j ≤ i))) dGe := ⟨op_ge, os_I0 fun _ _ _ _ => rfl⟩
end
/-! is None -/
def dIsN (x y : D) (S : Sto) : Rs D := match y with
  | .non => match x with
    | .non => .ok (.bl true) S
    | _ => .ok (.bl false) S
  | _ => .stk
def dIsNot (x y : D) (S : Sto) : Rs D := match y with
  | .non => match x with
    | .non => .ok (.bl false) S
    | _ => .ok (.bl true) S
  | _ => .stk
def D.isNon : D → Bool
  | .non => true
  | _ => false
theorem rep_non {K Hc m} {d : D} {v : V} (r : Rep K Hc m d v) : decide (v = .non) = d.isNon := by
  cases d with
  | non => cases r; rfl
  | bl b => cases r; rfl
  | int b => cases r; rfl
  | str b => cases r; rfl
  | tup b => obtain ⟨a, vs, rfl, _⟩ := r; rfl
  | lst b => obtain ⟨a, vs, rfl, _⟩ := r; rfl
  | ptr b => obtain ⟨a, rfl, _⟩ := r; rfl
  | rol b => obtain ⟨a, rfl, _⟩ := r; rfl
  | rng b c => obtain ⟨a, rfl, _⟩ := r; rfl
  | ty n => cases r; rfl
  | rot b => obtain ⟨a, vs, rfl, _⟩ := r; rfl
  | dct b c => obtain ⟨a, vs, rfl, _⟩ := r; rfl
theorem os_isN {K mg} : OS K mg (fun x y H Q => y = .non ∧ Q (.bl (decide (x = .non))) H) dIsN := by
  intro fr m Hc S H x y dx dy w Q z r1 r2 p
  unfold dIsN at p
  cases dy <;> first | exact p.elim | skip
  cases r2
  refine ⟨rfl, ?_⟩
  rw [rep_non r1]
  cases dx <;> exact p.use z rfl
theorem os_isNot {K mg} : OS K mg (fun x y H Q => y = .non ∧ Q (.bl (!decide (x = .non))) H) dIsNot := by
  intro fr m Hc S H x y dx dy w Q z r1 r2 p
  unfold dIsNot at p
  cases dy <;> first | exact p.elim | skip
  cases r2
  refine ⟨rfl, ?_⟩
  rw [rep_non r1]
  cases dx <;> exact p.use z rfl
theorem zo_isN {X : Cx} : ZO X (compareOp .Is) (fun x y H Q => y = .non ∧ Q (.bl (decide (x = .non))) H) dIsN := ⟨op_isN, os_isN⟩
theorem zo_isNot {X : Cx} : ZO X (compareOp .IsNot) (fun x y H Q => y = .non ∧ Q (.bl (!decide (x = .non))) H) dIsNot := ⟨op_notN, os_isNot⟩

/-! ### == of data -/
mutual
/-- as data, with the store's lists -/
def toP (S : Sto) : D → Option PyData
  | .non => some .none
  | .bl b => some (.bool b)
  | .int i => some (.int i)
  | .str x => some (.str x)
  | .tup ds => (toPs S ds).map .tuple
  | .rot ds => (toPs S ds).map .tuple
  | .lst ds => (toPs S ds).map .list
  | _ => none
def toPs (S : Sto) : List D → Option (List PyData)
  | [] => some []
  | d :: ds => match toP S d, toPs S ds with
    | some a, some b => some (a :: b)
    | _, _ => none
end
mutual
theorem toP_ok {K fr m Hc S H} (z : Zh K fr m Hc S H) : ∀ (d : D) (v : V) (p : PyData), Rep K Hc m d v → toP S d = some p → Dp K H v p
  | .non, _, _, r, e => by cases r; cases e; exact .non
  | .bl b, _, _, r, e => by cases r; cases e; exact .bl b
  | .int b, _, _, r, e => by cases r; cases e; exact .int b
  | .str b, _, _, r, e => by cases r; cases e; exact .str b
  | .tup ds, _, _, ⟨a, vs, e1, q, rr⟩, e => by
    subst e1
    unfold toP at e
    cases h : toPs S ds with
    | none => rw [h] at e; cases e
    | some ps => rw [h] at e; cases e; exact .tup (.of (z.sub _ _ q)) (toPs_ok z ds vs ps rr h)
  | .rot ds, _, _, ⟨a, vs, e1, q, rr⟩, e => by
    subst e1
    unfold toP at e
    cases h : toPs S ds with
    | none => rw [h] at e; cases e
    | some ps => rw [h] at e; cases e; exact .tup (Same.tupT z.sub q) (toPs_ok z ds vs ps rr h)
  | .ty _, _, _, _, e => by cases e
  | .lst ds, _, _, ⟨a, vs, e1, q, rr⟩, e => by
    subst e1
    unfold toP at e
    cases h : toPs S ds with
    | none => rw [h] at e; cases e
    | some ps => rw [h] at e; cases e; exact .lst (.of (z.sub _ _ q)) (toPs_ok z ds vs ps rr h)
  | .ptr _, _, _, _, e => by cases e
  | .rol _, _, _, _, e => by cases e
  | .rng _ _, _, _, _, e => by cases e
  | .dct _ _, _, _, _, e => by cases e
theorem toPs_ok {K fr m Hc S H} (z : Zh K fr m Hc S H) : ∀ (ds : List D) (vs : List V) (ps : List PyData), Reps K Hc m ds vs → toPs S ds = some ps → DpAll K H vs ps
  | [], _, _, r, e => by cases r; cases e; exact .nil
  | d :: ds, _, _, ⟨v, r, e1, h1, h2⟩, e => by
    subst e1
    unfold toPs at e
    cases h : toP S d with
    | none => simp [h] at e
    | some p =>
      cases h' : toPs S ds with
      | none => simp [h, h'] at e
      | some ps =>
        simp [h, h'] at e
        subst e
        exact .cons (toP_ok z d v p h1 h) (toPs_ok z ds r ps h2 h')
end
def dEqD (neg : Bool) (x y : D) (S : Sto) : Rs D := match toP S x, toP S y with
  | some a, some b => if SeqAt.shaped a = true ∧ SeqAt.shaped b = true then .ok (.bl (if neg then !PyData.eqv a b else PyData.eqv a b)) S else .stk
  | _, _ => .stk
def dEq (x y : D) (S : Sto) : Rs D := match x, y with
  | .int i, .int j => .ok (.bl (decide (i = j))) S
  | .bl i, .bl j => .ok (.bl (decide (i = j))) S
  | .str i, .str j => .ok (.bl (decide (i = j))) S
  | _, _ => dEqD false x y S
def dNe (x y : D) (S : Sto) : Rs D := match x, y with
  | .int i, .int j => .ok (.bl (!decide (i = j))) S
  | .bl i, .bl j => .ok (.bl (!decide (i = j))) S
  | .str i, .str j => .ok (.bl (!decide (i = j))) S
  | _, _ => dEqD true x y S
def rEqZ (K : PySem.W.Frag) : R2 := fun x y H Q => rEq x y H Q ∨ rEqD K x y H Q
def rNeZ (K : PySem.W.Frag) : R2 := fun x y H Q => rNe x y H Q ∨ rNeD K x y H Q
theorem os_eqD {K mg} : OS K mg (rEqD K) (dEqD false) := by
  intro fr m Hc S H x y dx dy w Q z r1 r2 p
  unfold dEqD at p
  cases h1 : toP S dx with
  | none => simp [h1] at p; exact p.elim
  | some a =>
    cases h2 : toP S dy with
    | none => simp [h1, h2] at p; exact p.elim
    | some b =>
      simp only [h1, h2] at p
      by_cases e : SeqAt.shaped a = true ∧ SeqAt.shaped b = true
      · rw [if_pos e] at p
        exact ⟨a, b, toP_ok z _ _ _ r1 h1, toP_ok z _ _ _ r2 h2, e.1, e.2, p.use z rfl⟩
      · rw [if_neg e] at p; exact p.elim
theorem os_neD {K mg} : OS K mg (rNeD K) (dEqD true) := by
  intro fr m Hc S H x y dx dy w Q z r1 r2 p
  unfold dEqD at p
  cases h1 : toP S dx with
  | none => simp [h1] at p; exact p.elim
  | some a =>
    cases h2 : toP S dy with
    | none => simp [h1, h2] at p; exact p.elim
    | some b =>
      simp only [h1, h2] at p
      by_cases e : SeqAt.shaped a = true ∧ SeqAt.shaped b = true
      · rw [if_pos e] at p
        exact ⟨a, b, toP_ok z _ _ _ r1 h1, toP_ok z _ _ _ r2 h2, e.1, e.2, p.use z rfl⟩
      · rw [if_neg e] at p; exact p.elim
theorem os_eq {K mg} : OS K mg (rEqZ K) dEq := by
  intro fr m Hc S H x y dx dy w Q z r1 r2 p
  unfold dEq at p
  split at p
  · rename_i i j
    cases r1; cases r2
    refine .inl ⟨rfl, ?_⟩
    have q : Q (.bl (decide (i = j))) H := p.use z rfl
    simpa using q
  · rename_i i j
    cases r1; cases r2
    refine .inl ⟨rfl, ?_⟩
    have q : Q (.bl (decide (i = j))) H := p.use z rfl
    simpa using q
  · rename_i i j
    cases r1; cases r2
    refine .inl ⟨rfl, ?_⟩
    have q : Q (.bl (decide (i = j))) H := p.use z rfl
    simpa using q
  · exact .inr (os_eqD fr m Hc S H x y dx dy w Q z r1 r2 p)
theorem os_ne {K mg} : OS K mg (rNeZ K) dNe := by
  intro fr m Hc S H x y dx dy w Q z r1 r2 p
  unfold dNe at p
  split at p
  · rename_i i j
    cases r1; cases r2
    refine .inl ⟨rfl, ?_⟩
    have q : Q (.bl (!decide (i = j))) H := p.use z rfl
    simpa using q
  · rename_i i j
    cases r1; cases r2
    refine .inl ⟨rfl, ?_⟩
    have q : Q (.bl (!decide (i = j))) H := p.use z rfl
    simpa using q
  · rename_i i j
    cases r1; cases r2
    refine .inl ⟨rfl, ?_⟩
    have q : Q (.bl (!decide (i = j))) H := p.use z rfl
    simpa using q
  · exact .inr (os_neD fr m Hc S H x y dx dy w Q z r1 r2 p)
theorem zo_eq {X : Cx} {k : Nat} (hr : Room k X.A) : ZO X (compareOp .Eq) (rEqZ X.K) dEq := ⟨op_eq.or (op_eqD (by have := hr.units; omega)), os_eq⟩
theorem zo_ne {X : Cx} {k : Nat} (hr : Room k X.A) : ZO X (compareOp .NotEq) (rNeZ X.K) dNe := ⟨op_ne.or (op_neD (by have := hr.units; omega)), os_ne⟩

/-! ### one-place operations, truth -/
def US (K : PySem.W.Frag) (mg : Mg) (r : V → Hp → VK → Prop) (o : D → Sto → Rs D) : Prop :=
  ∀ fr m Hc S H x dx w Q, Zh K fr m Hc S H → Rep K Hc m dx x → Pst K mg fr (fun Hc m d v => Rep K Hc m d v) m Hc w Q (o dx S) → r x H Q
def zUn (o : D → Sto → Rs D) (a : EM D) : EM D := fun env S => (a env S).bnd fun x S1 => o x S1
def dNeg (x : D) (S : Sto) : Rs D := match x with
  | .int i => .ok (.int (-i)) S
  | _ => .stk
def dInv (x : D) (S : Sto) : Rs D := match x with
  | .int i => .ok (.int (-i - 1)) S
  | _ => .stk
theorem us_neg {K mg} : US K mg (rU fun i => .int (-i)) dNeg := by
  intro fr m Hc S H x dx w Q z r1 p
  cases dx <;> first | exact p.elim | skip
  cases r1
  exact ⟨_, rfl, p.use z rfl⟩
theorem us_inv {K mg} : US K mg (rU fun i => .int (Builtin.bitNot i)) dInv := by
  intro fr m Hc S H x dx w Q z r1 p
  cases dx <;> first | exact p.elim | skip
  cases r1
  exact ⟨_, rfl, p.use z rfl⟩
section
variable {X : Cx} {W : WX} {pos : Pos} {a b c : Expr} {ta tb tc : TE} {fa fb fc : EM D} {tA tB' : TT} {gA gB : EM Bool} {rest : List Expr}
theorem se_un {K mg} {r : V → Hp → VK → Prop} {o : D → Sto → Rs D} (sa : SE K mg W ta fa) (so : US K mg r o) : SE K mg W (tUn r ta) (zUn o fa) := by
  intro fr m Hc env S σ H Q z zz p
  refine sa fr m Hc env S σ H _ z zz (p.bnd fun x S1 v m1 Hc1 H1 x1 z1 r1 p1 => ?_)
  exact so fr m1 Hc1 S1 H1 v x _ Q z1 r1 p1
theorem ze_neg (ha : ZE X W a ta fa) : ZE X W (.UnaryOp .USub a pos) (tUn (rU fun i => .int (-i)) ta) (zUn dNeg fa) := ⟨pe_un un_neg ha.pe, se_un ha.sd us_neg⟩
theorem ze_inv (ha : ZE X W a ta fa) : ZE X W (.UnaryOp .Invert a pos) (tUn (rU fun i => .int (Builtin.bitNot i)) ta) (zUn dInv fa) := ⟨pe_un un_inv ha.pe, se_un ha.sd us_inv⟩

/-- a value's truth -/
def truD (S : Sto) (d : D) : Option Bool := match d with
  | .non => some false
  | .bl b => some b
  | .int i => some (i != 0)
  | .str y => if y.length ≤ bigN then some ((y.length : Int) != 0) else none
  | d => (anyOf d S).map fun ds => !ds.isEmpty
def zTru (a : EM D) : EM Bool := fun env S => (a env S).bnd fun x S1 => match truD S1 x with
  | some b => .ok b S1
  | none => .stk
theorem tru_d {K fr m Hc S H} (z : Zh K fr m Hc S H) {d : D} {v : V} {b : Bool} (r : Rep K Hc m d v) (e : truD S d = some b) : TruV K v H b := by
  have go : ∀ ds : List D, anyOf d S = some ds → b = !ds.isEmpty → TruV K v H b := fun ds h1 h2 => by
    obtain ⟨a, vs, rfl, q, rr⟩ := z.any r h1
    have hb : b = !vs.isEmpty := by
      rw [h2]
      have := rr.length
      cases ds <;> cases vs <;> simp at this ⊢
    rcases q with q | q
    · exact .inl ⟨vs, q, hb⟩
    · exact .inr (.inl ⟨vs, q, hb⟩)
  have go2 : (anyOf d S).map (fun ds => !ds.isEmpty) = some b → TruV K v H b := fun h => by
    cases h1 : anyOf d S with
    | none => exact absurd h (by rw [h1]; intro q; cases q)
    | some ds => rw [h1] at h; cases h; exact go ds h1 rfl
  cases d with
  | non => cases r; cases e; rfl
  | bl b => cases r; cases e; rfl
  | int i => cases r; cases e; rfl
  | str y =>
    cases r
    unfold truD at e
    by_cases h : y.length ≤ bigN
    · simp only [h, if_true] at e
      cases e
      exact ⟨big_le h, rfl⟩
    · simp only [h] at e; cases e
  | _ => exact go2 e
theorem zt_tru (ha : ZE X W a ta fa) (he : ∀ whole, isTrue a X.env whole = (do let v ← whole; standAt a.pos; holding [v] (truthy v)) := by intro _; rfl) : ZT X W a (fun σ H Q => ta σ H fun x H' => ∃ k, TruV X.K x H' k ∧ Q k H') (zTru fa) := by
  refine ⟨pt_truth ha.pe he, ?_⟩
  intro fr m Hc env S σ H Q z zz p
  refine ha.sd fr m Hc env S σ H _ z zz (p.bnd fun x S1 v m1 Hc1 H1 x1 z1 r1 p1 => ?_)
  cases e : truD S1 x with
  | none => simp [e] at p1; exact p1.elim
  | some b =>
    simp only [e] at p1
    exact ⟨b, tru_d z1 r1 e, p1.use z1 rfl⟩
/-- a comparison as a test -/
def zB (f : EM D) : EM Bool := fun env S => (f env S).bnd fun x S1 => match x with
  | .bl b => .ok b S1
  | _ => .stk
theorem zt_cmp {op : CmpOp} {r : R2} {o : D → D → Sto → Rs D} (ho : ZO X (compareOp op) r o) (ha : ZE X W a ta fa) (hb : ZE X W b tb fb) (hm : behindInMarks op b = false := by first | exact nomark _ | rfl) : ZT X W (.Compare a [op] [b] pos) (tTest (tOp r ta tb)) (zB (zOp o fa fb)) := by
  refine ⟨pt_cmpR ho.op ha.pe hb.pe hm, ?_⟩
  intro fr m Hc env S σ H Q z zz p
  refine se_op ha.sd hb.sd ho.sd fr m Hc env S σ H _ z zz (p.bnd fun x S1 v m1 Hc1 H1 x1 z1 r1 p1 => ?_)
  cases x <;> first | exact p1.elim | skip
  cases r1
  exact ⟨_, rfl, p1.use z1 rfl⟩
/-- a test: the bool that comes -/
theorem zt_val (ha : ZE X W a ta fa) (he : ∀ whole, isTrue a X.env whole = (do let v ← whole; standAt a.pos; holding [v] (truthy v)) := by intro _; rfl) : ZT X W a (tB ta) (zB fa) := by
  refine ⟨pt_val ha.pe he, ?_⟩
  intro fr m Hc env S σ H Q z zz p
  refine ha.sd fr m Hc env S σ H _ z zz (p.bnd fun x S1 v m1 Hc1 H1 x1 z1 r1 p1 => ?_)
  cases x <;> first | exact p1.elim | skip
  cases r1
  exact ⟨_, rfl, p1.use z1 rfl⟩
def zAnd (a b : EM Bool) : EM Bool := fun env S => (a env S).bnd fun c S1 => if c = true then b env S1 else .ok false S1
def zOr (a b : EM Bool) : EM Bool := fun env S => (a env S).bnd fun c S1 => if c = true then .ok true S1 else b env S1
def zNot (a : EM Bool) : EM Bool := fun env S => (a env S).bnd fun c S1 => .ok (!c) S1
theorem zw_and1 (ha : ZT X W a tA gA) : ZW X W (.BoolOp .And [a] pos) tA gA := ⟨pw_and1 ha.pt, ha.sd⟩
theorem zw_or1 (ha : ZT X W a tA gA) : ZW X W (.BoolOp .Or [a] pos) tA gA := ⟨pw_or1 ha.pt, ha.sd⟩
theorem st_and {K mg} (sa : ST K mg W tA gA) (sb : ST K mg W tB' gB) : ST K mg W (tAnd tA tB') (zAnd gA gB) := by
  intro fr m Hc env S σ H Q z zz p
  refine sa fr m Hc env S σ H _ z zz (p.bnd fun c S1 d m1 Hc1 H1 x1 z1 r1 p1 => ?_)
  cases r1
  cases c with
  | true => exact iteT (sb fr m1 Hc1 env S1 σ H1 Q z1 (Ze.mono x1 zz) p1)
  | false => exact iteF (p1.use z1 rfl)
theorem st_or {K mg} (sa : ST K mg W tA gA) (sb : ST K mg W tB' gB) : ST K mg W (tOr tA tB') (zOr gA gB) := by
  intro fr m Hc env S σ H Q z zz p
  refine sa fr m Hc env S σ H _ z zz (p.bnd fun c S1 d m1 Hc1 H1 x1 z1 r1 p1 => ?_)
  cases r1
  cases c with
  | false => exact iteF (sb fr m1 Hc1 env S1 σ H1 Q z1 (Ze.mono x1 zz) p1)
  | true => exact iteT (p1.use z1 rfl)
theorem zw_and (ha : ZT X W a tA gA) (hb : ZW X W (.BoolOp .And (b :: rest) pos) tB' gB) : ZW X W (.BoolOp .And (a :: b :: rest) pos) (tAnd tA tB') (zAnd gA gB) := ⟨pw_and ha.pt hb.pw, st_and ha.sd hb.sd⟩
theorem zw_or (ha : ZT X W a tA gA) (hb : ZW X W (.BoolOp .Or (b :: rest) pos) tB' gB) : ZW X W (.BoolOp .Or (a :: b :: rest) pos) (tOr tA tB') (zOr gA gB) := ⟨pw_or ha.pt hb.pw, st_or ha.sd hb.sd⟩
theorem zt_not (ha : ZT X W a tA gA) : ZT X W (.UnaryOp .Not a pos) (tNot tA) (zNot gA) := by
  refine ⟨pt_not ha.pt, ?_⟩
  intro fr m Hc env S σ H Q z zz p
  refine ha.sd fr m Hc env S σ H _ z zz (p.bnd fun c S1 d m1 Hc1 H1 x1 z1 r1 p1 => ?_)
  cases r1
  exact p1.use z1 rfl
/-! as values -/
def zAndV (a b : EM D) : EM D := fun env S => (a env S).bnd fun c S1 => match c with
  | .bl true => b env S1
  | .bl false => .ok (.bl false) S1
  | _ => .stk
def zOrV (a b : EM D) : EM D := fun env S => (a env S).bnd fun c S1 => match c with
  | .bl true => .ok (.bl true) S1
  | .bl false => b env S1
  | _ => .stk
def zNotV (a : EM D) : EM D := fun env S => (a env S).bnd fun c S1 => match c with
  | .bl k => .ok (.bl (!k)) S1
  | _ => .stk
theorem ze_one {op} (ha : ZE X W a ta fa) : ZE X W (.BoolOp op [a] pos) ta fa := ⟨pe_one ha.pe, ha.sd⟩
theorem ze_and (ha : ZE X W a ta fa) (hb : ZE X W (.BoolOp .And (b :: rest) pos) tb fb) : ZE X W (.BoolOp .And (a :: b :: rest) pos) (tAndV ta tb) (zAndV fa fb) := by
  refine ⟨pe_and ha.pe hb.pe, ?_⟩
  intro fr m Hc env S σ H Q z zz p
  refine ha.sd fr m Hc env S σ H _ z zz (p.bnd fun c S1 d m1 Hc1 H1 x1 z1 r1 p1 => ?_)
  cases c <;> first | exact p1.elim | skip
  rename_i k
  cases r1
  cases k with
  | true => exact ⟨true, rfl, iteT (hb.sd fr m1 Hc1 env S1 σ H1 Q z1 (Ze.mono x1 zz) p1)⟩
  | false => exact ⟨false, rfl, iteF (p1.use z1 rfl)⟩
theorem ze_or (ha : ZE X W a ta fa) (hb : ZE X W (.BoolOp .Or (b :: rest) pos) tb fb) : ZE X W (.BoolOp .Or (a :: b :: rest) pos) (tOrV ta tb) (zOrV fa fb) := by
  refine ⟨pe_or ha.pe hb.pe, ?_⟩
  intro fr m Hc env S σ H Q z zz p
  refine ha.sd fr m Hc env S σ H _ z zz (p.bnd fun c S1 d m1 Hc1 H1 x1 z1 r1 p1 => ?_)
  cases c <;> first | exact p1.elim | skip
  rename_i k
  cases r1
  cases k with
  | false => exact ⟨false, rfl, iteF (hb.sd fr m1 Hc1 env S1 σ H1 Q z1 (Ze.mono x1 zz) p1)⟩
  | true => exact ⟨true, rfl, iteT (p1.use z1 rfl)⟩
theorem ze_not (ha : ZE X W a ta fa) : ZE X W (.UnaryOp .Not a pos) (tNotV ta) (zNotV fa) := by
  refine ⟨pe_not ha.pe, ?_⟩
  intro fr m Hc env S σ H Q z zz p
  refine ha.sd fr m Hc env S σ H _ z zz (p.bnd fun c S1 d m1 Hc1 H1 x1 z1 r1 p1 => ?_)
  cases c <;> first | exact p1.elim | skip
  cases r1
  exact ⟨_, rfl, p1.use z1 rfl⟩
def zIf (c : EM Bool) (a b : EM D) : EM D := fun env S => (c env S).bnd fun k S1 => if k = true then a env S1 else b env S1
theorem ze_if (hc : ZT X W c tA gA) (ha : ZE X W a ta fa) (hb : ZE X W b tb fb) : ZE X W (.IfExp c a b pos) (tIf tA ta tb) (zIf gA fa fb) := by
  refine ⟨pe_ifExp hc.pt ha.pe hb.pe, ?_⟩
  intro fr m Hc env S σ H Q z zz p
  refine hc.sd fr m Hc env S σ H _ z zz (p.bnd fun c S1 d m1 Hc1 H1 x1 z1 r1 p1 => ?_)
  cases r1
  cases c with
  | true => exact iteT (ha.sd fr m1 Hc1 env S1 σ H1 Q z1 (Ze.mono x1 zz) p1)
  | false => exact iteF (hb.sd fr m1 Hc1 env S1 σ H1 Q z1 (Ze.mono x1 zz) p1)
/-- a op b op c -/
def zChain (o o' : D → D → Sto → Rs D) (a b c : EM D) : EM D := fun env S => (a env S).bnd fun x S1 => (b env S1).bnd fun y S2 => (o x y S2).bnd fun k S3 => match k with
  | .bl true => (c env S3).bnd fun w S4 => o' y w S4
  | .bl false => .ok (.bl false) S3
  | _ => .stk
theorem ze_chain {op op' : CmpOp} {r r' : R2} {o o' : D → D → Sto → Rs D} (ho : ZO X (compareOp op) r o) (ho' : ZO X (compareOp op') r' o') (ha : ZE X W a ta fa) (hb : ZE X W b tb fb) (hc : ZE X W c tc fc)
    (hm : lastMarks [op, op'] [b, c] = false := by with_unfolding_all rfl) : ZE X W (.Compare a [op, op'] [b, c] pos) (tChain r r' ta tb tc) (zChain o o' fa fb fc) := by
  refine ⟨pe_chain ho.op ho'.op ha.pe hb.pe hc.pe hm, ?_⟩
  intro fr m Hc env S σ H Q z zz p
  refine ha.sd fr m Hc env S σ H _ z zz (p.bnd fun x S1 v m1 Hc1 H1 x1 z1 r1 p1 => ?_)
  refine hb.sd fr m1 Hc1 env S1 σ H1 _ z1 (Ze.mono x1 zz) (p1.bnd fun y S2 u m2 Hc2 H2 x2 z2 r2 p2 => ?_)
  refine ho.sd fr m2 Hc2 S2 H2 v u x y _ _ z2 (Rep.mono x2 _ _ r1) r2 (p2.bnd fun k S3 kv m3 Hc3 H3 x3 z3 r3 p3 => ?_)
  cases k <;> first | exact p3.elim | skip
  rename_i k
  cases r3
  cases k with
  | false => exact ⟨false, rfl, iteF (p3.use z3 rfl)⟩
  | true =>
    refine ⟨true, rfl, iteT ?_⟩
    refine hc.sd fr m3 Hc3 env S3 σ H3 _ z3 (Ze.mono (x1.trans (x2.trans x3)) zz) (p3.bnd fun t S4 tv m4 Hc4 H4 x4 z4 r4 p4 => ?_)
    exact ho'.sd fr m4 Hc4 S4 H4 u tv y t _ Q z4 (Rep.mono (x3.trans x4) _ _ r2) r4 p4
end
end Z

namespace Z
open PySem L2
open PySem.Spec PyProof.Rows
variable [Tabs] [Hot]

/-! ### argument lists, displays -/
def zNil : EM (List D) := fun _ S => .ok [] S
def zCons (a : EM D) (r : EM (List D)) : EM (List D) := fun env S => (a env S).bnd fun x S1 => (r env S1).bnd fun xs S2 => .ok (x :: xs) S2
def zTup (a : EM (List D)) : EM D := fun env S => (a env S).bnd fun xs S1 => if xs.length ≤ bigN then .ok (.tup xs) S1 else .stk
def zLst (a : EM (List D)) : EM D := fun env S => (a env S).bnd fun xs S1 => if xs.length ≤ bigN then .ok (.lst xs) S1 else .stk
def zLstC (a : EM (List D)) : EM D := fun env S => (a env S).bnd fun xs S1 => if xs.length ≤ bigN then .ok (.ptr S1.length) (S1 ++ [.lst xs]) else .stk
theorem Pst.useC {K mg fr m Hc w} {Q : VK} {S : Sto} {H : Hp} {ds : List D} {vs : List V} {p : Addr} (h : Pst K mg fr (fun Hc m d v => Rep K Hc m d v) m Hc w Q (.ok (.ptr S.length) (S ++ [.lst ds]))) (z : Zh K fr m Hc S H) (hp : H p = none) (r : Reps K Hc m ds vs) : Q (.ref p) (upd H p (.lst vs)) := by
  obtain ⟨z', x⟩ := z.newC hp r
  exact h _ _ _ _ x z' ⟨p, rfl, by rw [← z.len, List.getElem?_append_right (Nat.le_refl _)]; simp⟩
section
variable {X : Cx} {W : WX} {pos : Pos} {e : Expr} {es : List Expr} {te : TE} {fe : EM D} {t : TA} {f : EM (List D)}
theorem ar_nil : Arity zNil 0 := fun env S xs S1 h => by cases h; rfl
theorem ar_cons {n : Nat} (h : Arity f n) : Arity (zCons fe f) (n + 1) := fun env S xs S1 e => by
  unfold zCons at e
  cases h1 : fe env S with
  | stk => rw [h1] at e; cases e
  | exc x S => rw [h1] at e; cases e
  | ok x S2 =>
    rw [h1] at e
    simp only [Rs.bnd_ok] at e
    cases h2 : f env S2 with
    | stk => rw [h2] at e; cases e
    | exc x S => rw [h2] at e; cases e
    | ok ys S3 =>
      rw [h2] at e
      cases e
      simp [h _ _ _ _ h2]
theorem za_nil : ZA X W [] tNil zNil := ⟨pa_nil, fun fr m Hc env S σ H Q z zz p => p.use z rfl, ar_nil⟩
theorem za_cons (he : ZE X W e te fe) (hs : ZA X W es t f) (hst : starEach (e :: es) X.env = (false, eval e X.env) :: starEach es X.env := by rfl) : ZA X W (e :: es) (tCons te t) (zCons fe f) := by
  refine ⟨pa_cons he.pe hs.pa hst, ?_, ar_cons hs.ar⟩
  intro fr m Hc env S σ H Q z zz p
  refine he.sd fr m Hc env S σ H _ z zz (p.bnd fun x S1 v m1 Hc1 H1 x1 z1 r1 p1 => ?_)
  refine hs.sd fr m1 Hc1 env S1 σ H1 _ z1 (Ze.mono x1 zz) (p1.bnd fun xs S2 vs m2 Hc2 H2 x2 z2 r2 p2 => ?_)
  exact p2.use z2 ⟨v, vs, rfl, Rep.mono x2 _ _ r1, r2⟩
theorem ze_tup {j} (ha : ZA X W es t f) : ZE X W (.Tuple es j pos) (tTup t) (zTup f) := by
  refine ⟨pe_tup ha.pa, ?_⟩
  intro fr m Hc env S σ H Q z zz p
  refine ha.sd fr m Hc env S σ H _ z zz (p.bnd fun xs S1 vs m1 Hc1 H1 x1 z1 r1 p1 => ?_)
  by_cases h : xs.length ≤ bigN
  · rw [if_pos h] at p1
    refine ⟨by rw [r1.length]; exact big_le h, fun q hq => p1.useN z1 hq ?_⟩
    exact ⟨q, vs, rfl, upd_same, Reps.mono (z1.new hq).2 _ _ r1⟩
  · rw [if_neg h] at p1; exact p1.elim
theorem ze_lst (ha : ZA X W es t f) : ZE X W (.List es pos) (tLst t) (zLst f) := by
  refine ⟨pe_lst ha.pa, ?_⟩
  intro fr m Hc env S σ H Q z zz p
  refine ha.sd fr m Hc env S σ H _ z zz (p.bnd fun xs S1 vs m1 Hc1 H1 x1 z1 r1 p1 => ?_)
  by_cases h : xs.length ≤ bigN
  · rw [if_pos h] at p1
    refine ⟨by rw [r1.length]; exact big_le h, fun q hq => p1.useN z1 hq ?_⟩
    exact ⟨q, vs, rfl, upd_same, Reps.mono (z1.new hq).2 _ _ r1⟩
  · rw [if_neg h] at p1; exact p1.elim
theorem ze_lstC (ha : ZA X W es t f) : ZE X W (.List es pos) (tLst t) (zLstC f) := by
  refine ⟨pe_lst ha.pa, ?_⟩
  intro fr m Hc env S σ H Q z zz p
  refine ha.sd fr m Hc env S σ H _ z zz (p.bnd fun xs S1 vs m1 Hc1 H1 x1 z1 r1 p1 => ?_)
  by_cases h : xs.length ≤ bigN
  · rw [if_pos h] at p1
    exact ⟨by rw [r1.length]; exact big_le h, fun q hq => p1.useC z1 hq r1⟩
  · rw [if_neg h] at p1; exact p1.elim
end

/-! ### calls of built-ins by values -/
def CS (K : PySem.W.Frag) (mg : Mg) (r : List V → Hp → VK → Prop) (o : List D → Sto → Rs D) : Prop :=
  ∀ fr m Hc S H xs ds w Q, Zh K fr m Hc S H → Reps K Hc m ds xs → Pst K mg fr (fun Hc m d v => Rep K Hc m d v) m Hc w Q (o ds S) → r xs H Q
def zCall (o : List D → Sto → Rs D) (a : EM (List D)) : EM D := fun env S => (a env S).bnd fun xs S1 => o xs S1
section
variable {X : Cx} {W : WX} {pos p : Pos} {x : Str} {e : Expr} {es : List Expr} {t : TA} {f : EM (List D)} {r : List V → Hp → VK → Prop} {o : List D → Sto → Rs D} {id T : String}
theorem ze_callB (hc : CallR X (.builtin id) r) (hs : CS X.K X.mg r o) (hg : Gl X x) (hm : X.mg x = none) (hv : bootBuiltins x = some (.builtin id)) (ha : ZA X W (e :: es) t f) (hn : x ≠ "__name__" := by decide) (hdb : (x == ("__debug__" : Str)) = false := by decide)
    (he : starEach (e :: es) X.env = (false, eval e X.env) :: starEach es X.env := by rfl) (hpl : (backTo pos (starEach es X.env)).any (·.1) = false := by rfl) : ZE X W (.Call (.Name x p) (e :: es) [] pos) (tCB r t) (zCall o f) := by
  refine ⟨pe_callB hc hg hm hv ha.pa hn hdb he hpl, ?_⟩
  intro fr m Hc env S σ H Q z zz p
  refine ha.sd fr m Hc env S σ H _ z zz (p.bnd fun xs S1 vs m1 Hc1 H1 x1 z1 r1 p1 => ?_)
  exact hs fr m1 Hc1 S1 H1 vs xs _ Q z1 r1 p1
theorem ze_callT (hc : CallR X (.type T) r) (hs : CS X.K X.mg r o) (hg : Gl X x) (hm : X.mg x = none) (hv : bootBuiltins x = some (.type T)) (ha : ZA X W (e :: es) t f) (hn : x ≠ "__name__" := by decide) (hdb : (x == ("__debug__" : Str)) = false := by decide)
    (he : starEach (e :: es) X.env = (false, eval e X.env) :: starEach es X.env := by rfl) (hpl : (backTo pos (starEach es X.env)).any (·.1) = false := by rfl) : ZE X W (.Call (.Name x p) (e :: es) [] pos) (tCB r t) (zCall o f) := by
  refine ⟨pe_callTy hc hg hm hv ha.pa hn hdb he hpl, ?_⟩
  intro fr m Hc env S σ H Q z zz p
  refine ha.sd fr m Hc env S σ H _ z zz (p.bnd fun xs S1 vs m1 Hc1 H1 x1 z1 r1 p1 => ?_)
  exact hs fr m1 Hc1 S1 H1 vs xs _ Q z1 r1 p1
end
theorem Reps.one_of {K Hc m} {d : D} {vs : List V} (h : Reps K Hc m [d] vs) : ∃ v, vs = [v] ∧ Rep K Hc m d v := by
  obtain ⟨v, r, e, h1, h2⟩ := h
  cases h2
  exact ⟨v, e, h1⟩
theorem Reps.two_of {K Hc m} {d e : D} {vs : List V} (h : Reps K Hc m [d, e] vs) : ∃ v w, vs = [v, w] ∧ Rep K Hc m d v ∧ Rep K Hc m e w := by
  obtain ⟨v, r, e, h1, h2⟩ := h
  obtain ⟨w, h3, h4⟩ := Reps.one_of h2
  exact ⟨v, w, by rw [e, h3], h1, h4⟩
/-- len -/
def dLen (xs : List D) (S : Sto) : Rs D := match xs with
  | [.str z] => if z.length ≤ bigN then .ok (.int z.length) S else .stk
  | [d] => match anyOf d S with
    | some ds => .ok (.int ds.length) S
    | none => .stk
  | _ => .stk
def rLenZ (K : PySem.W.Frag) : List V → Hp → VK → Prop := fun xs H Q => ∃ x n, xs = [x] ∧ LenV K x H n ∧ Q (.int n) H
theorem cs_len {K mg} : CS K mg (rLenZ K) dLen := by
  intro fr m Hc S H xs ds w Q z r p
  unfold dLen at p
  split at p
  · rename_i zz
    obtain ⟨v, rfl, r1⟩ := r.one_of
    cases r1
    by_cases h : zz.length ≤ bigN
    · rw [if_pos h] at p
      exact ⟨_, zz.length, rfl, ⟨big_le h, rfl⟩, p.use z rfl⟩
    · rw [if_neg h] at p; exact p.elim
  · rename_i d _
    obtain ⟨v, rfl, r1⟩ := r.one_of
    cases e : anyOf d S with
    | none => simp [e] at p; exact p.elim
    | some es =>
      simp only [e] at p
      obtain ⟨a, vs, rfl, q, rr⟩ := z.any r1 e
      refine ⟨_, es.length, rfl, ?_, p.use z rfl⟩
      rcases q with q | q
      · exact .inl ⟨vs, q, rr.length.symm⟩
      · exact .inr ⟨vs, q, rr.length.symm⟩
  · exact p.elim
def dAbs (xs : List D) (S : Sto) : Rs D := match xs with
  | [.int i] => .ok (.int (if i < 0 then -i else i)) S
  | _ => .stk
theorem cs_abs {K mg} : CS K mg (fun xs H Q => ∃ i, xs = [.int i] ∧ Q (.int (if i < 0 then -i else i)) H) dAbs := by
  intro fr m Hc S H xs ds w Q z r p
  unfold dAbs at p
  split at p
  · obtain ⟨v, rfl, r1⟩ := r.one_of
    cases r1
    exact ⟨_, rfl, p.use z rfl⟩
  · exact p.elim
def dInt (xs : List D) (S : Sto) : Rs D := match xs with
  | [.int i] => .ok (.int i) S
  | [.bl k] => .ok (.int (if k then 1 else 0)) S
  | _ => .stk
theorem cs_int {K mg} : CS K mg (fun xs H Q => (∃ i, xs = [.int i] ∧ Q (.int i) H) ∨ ∃ k, xs = [.bl k] ∧ Q (.int (if k then 1 else 0)) H) dInt := by
  intro fr m Hc S H xs ds w Q z r p
  unfold dInt at p
  split at p
  · obtain ⟨v, rfl, r1⟩ := r.one_of
    cases r1
    exact .inl ⟨_, rfl, p.use z rfl⟩
  · obtain ⟨v, rfl, r1⟩ := r.one_of
    cases r1
    exact .inr ⟨_, rfl, p.use z rfl⟩
  · exact p.elim
def dBool (xs : List D) (S : Sto) : Rs D := match xs with
  | [.int i] => .ok (.bl (i != 0)) S
  | [.bl k] => .ok (.bl k) S
  | _ => .stk
theorem cs_bool {K mg} : CS K mg (fun xs H Q => (∃ i, xs = [.int i] ∧ Q (.bl (i != 0)) H) ∨ ∃ k, xs = [.bl k] ∧ Q (.bl k) H) dBool := by
  intro fr m Hc S H xs ds w Q z r p
  unfold dBool at p
  split at p
  · obtain ⟨v, rfl, r1⟩ := r.one_of
    cases r1
    exact .inl ⟨_, rfl, p.use z rfl⟩
  · obtain ⟨v, rfl, r1⟩ := r.one_of
    cases r1
    exact .inr ⟨_, rfl, p.use z rfl⟩
  · exact p.elim
def dMin2 (xs : List D) (S : Sto) : Rs D := match xs with
  | [.int i, .int j] => .ok (.int (if j < i then j else i)) S
  | _ => .stk
def dMax2 (xs : List D) (S : Sto) : Rs D := match xs with
  | [.int i, .int j] => .ok (.int (if j > i then j else i)) S
  | _ => .stk
theorem cs_min2 {K mg} : CS K mg (fun xs H Q => ∃ i j, xs = [.int i, .int j] ∧ Q (.int (if j < i then j else i)) H) dMin2 := by
  intro fr m Hc S H xs ds w Q z r p
  unfold dMin2 at p
  split at p
  · obtain ⟨v, w, rfl, r1, r'⟩ := r.two_of
    cases r1; cases r'
    exact ⟨_, _, rfl, p.use z rfl⟩
  · exact p.elim
theorem cs_max2 {K mg} : CS K mg (fun xs H Q => ∃ i j, xs = [.int i, .int j] ∧ Q (.int (if j > i then j else i)) H) dMax2 := by
  intro fr m Hc S H xs ds w Q z r p
  unfold dMax2 at p
  split at p
  · obtain ⟨v, w, rfl, r1, r'⟩ := r.two_of
    cases r1; cases r'
    exact ⟨_, _, rfl, p.use z rfl⟩
  · exact p.elim
/-- tuple(list) -/
def dTuple (xs : List D) (S : Sto) : Rs D := match xs with
  | [.tup ds] => .ok (.tup ds) S
  | [.rot ds] => .ok (.rot ds) S
  | [d] => match seqOf d S with
    | some ds => .ok (.tup ds) S
    | none => .stk
  | _ => .stk
theorem cs_tuple {K mg} : CS K mg (fun xs H Q => ∃ p ys, xs = [.ref p] ∧ ((SqL K H p ys ∧ ∀ l, H l = none → Q (.ref l) (upd H l (.tup ys))) ∨ (SqT K H p ys ∧ Q (.ref p) H))) dTuple := by
  intro fr m Hc S H xs ds w Q z r p
  unfold dTuple at p
  split at p
  · obtain ⟨v, rfl, r1⟩ := r.one_of
    obtain ⟨a, vs, rfl, q, rr⟩ := r1
    exact ⟨a, vs, rfl, .inr ⟨.of (z.sub _ _ q), p.use z ⟨a, vs, rfl, q, rr⟩⟩⟩
  · obtain ⟨v, rfl, r1⟩ := r.one_of
    obtain ⟨a, vs, rfl, q, rr⟩ := r1
    exact ⟨a, vs, rfl, .inr ⟨Same.tupT z.sub q, p.use z ⟨a, vs, rfl, q, rr⟩⟩⟩
  · rename_i d _ _
    obtain ⟨v, rfl, r1⟩ := r.one_of
    cases e : seqOf d S with
    | none => simp [e] at p; exact p.elim
    | some es =>
      simp only [e] at p
      obtain ⟨a, vs, rfl, q, rr⟩ := z.seq r1 e
      refine ⟨a, vs, rfl, .inl ⟨q, fun l hl => p.useN z hl ?_⟩⟩
      exact ⟨l, vs, rfl, upd_same, Reps.mono (z.new hl).2 _ _ rr⟩
  · exact p.elim
/-- list(..): frozen, or mutable -/
def dList (xs : List D) (S : Sto) : Rs D := match xs with
  | [d] => match anyOf d S with
    | some ds => .ok (.lst ds) S
    | none => .stk
  | _ => .stk
def dListC (xs : List D) (S : Sto) : Rs D := match xs with
  | [d] => match anyOf d S with
    | some ds => .ok (.ptr S.length) (S ++ [.lst ds])
    | none => .stk
  | _ => .stk
def rListOf (K : PySem.W.Frag) : List V → Hp → VK → Prop := fun xs H Q => ∃ p ys, xs = [.ref p] ∧ (SqL K H p ys ∨ SqT K H p ys) ∧ ∀ l, H l = none → Q (.ref l) (upd H l (.lst ys))
theorem cs_list {K mg} : CS K mg (rListOf K) dList := by
  intro fr m Hc S H xs ds w Q z r p
  unfold dList at p
  split at p
  · rename_i d
    obtain ⟨v, rfl, r1⟩ := r.one_of
    cases e : anyOf d S with
    | none => simp [e] at p; exact p.elim
    | some es =>
      simp only [e] at p
      obtain ⟨a, vs, rfl, q, rr⟩ := z.any r1 e
      refine ⟨a, vs, rfl, q, fun l hl => p.useN z hl ?_⟩
      exact ⟨l, vs, rfl, upd_same, Reps.mono (z.new hl).2 _ _ rr⟩
  · exact p.elim
theorem cs_listC {K mg} : CS K mg (rListOf K) dListC := by
  intro fr m Hc S H xs ds w Q z r p
  unfold dListC at p
  split at p
  · rename_i d
    obtain ⟨v, rfl, r1⟩ := r.one_of
    cases e : anyOf d S with
    | none => simp [e] at p; exact p.elim
    | some es =>
      simp only [e] at p
      obtain ⟨a, vs, rfl, q, rr⟩ := z.any r1 e
      exact ⟨a, vs, rfl, q, fun l hl => p.useC z hl rr⟩
  · exact p.elim

/-! ### slices -/
def cutD (xs : List D) (lo hi : Option Int) : List D := (xs.drop (HT.sIx xs.length 0 lo)).take (HT.sIx xs.length xs.length hi - HT.sIx xs.length 0 lo)
theorem Reps.cut {K Hc m} {ds : List D} {vs : List V} (h : Reps K Hc m ds vs) (lo hi : Option Int) : Reps K Hc m (cutD ds lo hi) (cutV vs lo hi) := by
  unfold cutD cutV
  rw [h.length]
  exact (h.drop _).take _
abbrev EO := EM (Option Int)
structure ZP (X : Cx) (W : WX) (e : Option Expr) (t : TO) (f : EO) : Prop where
  po : PO X e t
  sd : ∀ fr m Hc env S σ H Q, Zh X.K fr m Hc S H → Ze X.K Hc m env σ → Pst X.K X.mg fr (fun _ _ a b => a = b) m Hc (fun c o H => W c o σ H) Q (f env S) → t σ H Q
def zNoPart : EO := fun _ S => .ok none S
def zPart (a : EM D) : EO := fun env S => (a env S).bnd fun x S1 => match x with
  | .int i => .ok (some i) S1
  | _ => .stk
def dSl (x : D) (lo hi : Option Int) (S : Sto) : Rs D := match x with
  | .tup ds => .ok (.tup (cutD ds lo hi)) S
  | d => match seqOf d S with
    | some ds => .ok (.lst (cutD ds lo hi)) S
    | none => .stk
def zSl (a : EM D) (lo hi : EO) : EM D := fun env S => (a env S).bnd fun x S1 => (lo env S1).bnd fun l S2 => (hi env S2).bnd fun u S3 => dSl x l u S3
def rSlZ (K : PySem.W.Frag) : V → Option Int → Option Int → Hp → VK → Prop := fun x lo hi H Q => rSlL K x lo hi H Q ∨ rSlA K x lo hi H Q
section
variable {X : Cx} {W : WX} {pos p2 : Pos} {e : Expr} {lo hi : Option Expr} {te : TE} {fe : EM D} {tl th : TO} {fl fh : EO}
theorem zp_none : ZP X W none tNoPart zNoPart := ⟨po_none, fun fr m Hc env S σ H Q z zz p => p.use z rfl⟩
theorem zp_some (he : ZE X W e te fe) : ZP X W (some e) (tPart te) (zPart fe) := by
  refine ⟨po_some he.pe, ?_⟩
  intro fr m Hc env S σ H Q z zz p
  refine he.sd fr m Hc env S σ H _ z zz (p.bnd fun x S1 v m1 Hc1 H1 x1 z1 r1 p1 => ?_)
  cases x <;> first | exact p1.elim | skip
  cases r1
  exact ⟨_, rfl, p1.use z1 rfl⟩
theorem ze_sl (he : ZE X W e te fe) (hl : ZP X W lo tl fl) (hu : ZP X W hi th fh) : ZE X W (.Subscript e (.Slice lo hi none p2) pos) (tSl (rSlZ X.K) te tl th) (zSl fe fl fh) := by
  refine ⟨pe_slice (sl_list.or sl_tupA) he.pe hl.po hu.po, ?_⟩
  intro fr m Hc env S σ H Q z zz p
  refine he.sd fr m Hc env S σ H _ z zz (p.bnd fun x S1 v m1 Hc1 H1 x1 z1 r1 p1 => ?_)
  refine hl.sd fr m1 Hc1 env S1 σ H1 _ z1 (Ze.mono x1 zz) (p1.bnd fun l S2 l' m2 Hc2 H2 x2 z2 r2 p2 => ?_)
  refine hu.sd fr m2 Hc2 env S2 σ H2 _ z2 (Ze.mono (x1.trans x2) zz) (p2.bnd fun u S3 u' m3 Hc3 H3 x3 z3 r3 p3 => ?_)
  cases r2; cases r3
  have rx := Rep.mono (x2.trans x3) _ _ r1
  have lst : ∀ ds, seqOf x S3 = some ds → Pst X.K X.mg fr (fun Hc m d v => Rep X.K Hc m d v) m3 Hc3 (fun c o H => W c o σ H) Q (.ok (.lst (cutD ds l u)) S3) → rSlZ X.K v l u H3 Q := fun ds e p => by
    obtain ⟨a, vs, rfl, q, rr⟩ := z3.seq rx e
    refine .inl ⟨a, vs, rfl, q, fun b hb => p.useN z3 hb ?_⟩
    exact ⟨b, _, rfl, upd_same, Reps.mono (z3.new hb).2 _ _ (rr.cut l u)⟩
  unfold dSl at p3
  cases x with
  | tup ds =>
    obtain ⟨a, vs, rfl, q, rr⟩ := rx
    refine .inr ⟨a, vs, rfl, .of (z3.sub _ _ q), fun hw => ?_, fun _ b hb => p3.useN z3 hb ?_⟩
    · refine p3.use z3 ⟨a, vs, rfl, q, ?_⟩
      have : cutD ds l u = ds := by
        unfold cutD
        rw [← rr.length, hw.1, hw.2]
        simp [rr.length]
      rw [this]; exact rr
    · exact ⟨b, _, rfl, upd_same, Reps.mono (z3.new hb).2 _ _ (rr.cut l u)⟩
  | lst ds => exact lst ds rfl p3
  | rol ds => exact lst _ rfl p3
  | ptr n =>
    cases h : seqOf (.ptr n) S3 with
    | none => simp [h] at p3; exact p3.elim
    | some ds => simp only [h] at p3; exact lst ds h p3
  | _ => exact p3.elim
end
end Z

namespace Z
open PySem L2
open PySem.Spec PyProof.Rows
variable [Tabs] [Hot]

/-! ### statements -/
inductive Fl where
  | next (env : En) | ret (d : D) | brk (env : En) | cnt (env : En) | exc (e : XV) (env : En)
inductive Ss where
  | mk (fl : Fl) (S : Sto) | stk
abbrev SM := En → Sto → Ss
/-- from an expression to a statement -/
def Rs.st {α : Type} (r : Rs α) (env : En) (k : α → Sto → Ss) : Ss := match r with
  | .ok a S => k a S
  | .exc e S => .mk (.exc e env) S
  | .stk => .stk
@[simp] theorem Rs.st_ok {α : Type} (a : α) (S : Sto) (env : En) (k : α → Sto → Ss) : (Rs.ok a S).st env k = k a S := rfl
@[simp] theorem Rs.st_exc {α : Type} (a : XV) (S : Sto) (env : En) (k : α → Sto → Ss) : (Rs.exc a S : Rs α).st env k = .mk (.exc a env) S := rfl
@[simp] theorem Rs.st_stk {α : Type} (env : En) (k : α → Sto → Ss) : (Rs.stk : Rs α).st env k = .stk := rfl
def PstS (K : PySem.W.Frag) (mg : Mg) (fr : List (Addr × HO)) (m : List Addr) (Hc : Hp) (W : WX) (E : Ends) : Ss → Prop
  | .mk (.next env') S' => ∀ σ' m' Hc' H', Ex m Hc m' Hc' → Zh K fr m' Hc' S' H' → Ze K Hc' m' env' σ' → E.nx σ' H'
  | .mk (.ret d) S' => ∀ v m' Hc' H', Ex m Hc m' Hc' → Zh K fr m' Hc' S' H' → Rep K Hc' m' d v → E.rt v H'
  | .mk (.brk env') S' => ∀ σ' m' Hc' H', Ex m Hc m' Hc' → Zh K fr m' Hc' S' H' → Ze K Hc' m' env' σ' → E.bk σ' H'
  | .mk (.cnt env') S' => ∀ σ' m' Hc' H', Ex m Hc m' Hc' → Zh K fr m' Hc' S' H' → Ze K Hc' m' env' σ' → E.ct σ' H'
  | .mk (.exc e env') S' => ∀ σ' cls od m' Hc' H', Ex m Hc m' Hc' → Zh K fr m' Hc' S' H' → Ze K Hc' m' env' σ' → RepX K mg Hc' m' e cls od H' → W cls od σ' H'
  | .stk => False
theorem PstS.mono {K mg fr m Hc m' Hc' W E} {r : Ss} (x : Ex m Hc m' Hc') (h : PstS K mg fr m Hc W E r) : PstS K mg fr m' Hc' W E r := by
  cases r with
  | stk => exact h
  | mk fl S =>
    cases fl with
    | next env => exact fun a b c d y z q => h a b c d (x.trans y) z q
    | ret env => exact fun a b c d y z q => h a b c d (x.trans y) z q
    | brk env => exact fun a b c d y z q => h a b c d (x.trans y) z q
    | cnt env => exact fun a b c d y z q => h a b c d (x.trans y) z q
    | exc e env => exact fun a b c d e' f y z q q' => h a b c d e' f (x.trans y) z q q'
/-- from a statement's wish to an expression's -/
theorem PstS.bnd {α β : Type} {K mg fr m Hc W E} {rel : Hp → List Addr → α → β → Prop} {r : Rs α} {env : En} {σ : L2.St} {k : α → Sto → Ss} {T : β → Hp → Prop} (zz : Ze K Hc m env σ) (h : PstS K mg fr m Hc W E (r.st env k))
    (hk : ∀ a S1 b m1 Hc1 H1, Ex m Hc m1 Hc1 → Zh K fr m1 Hc1 S1 H1 → rel Hc1 m1 a b → PstS K mg fr m1 Hc1 W E (k a S1) → T b H1) : Pst K mg fr rel m Hc (fun c o H => W c o σ H) T r := by
  cases r with
  | ok a S => exact fun b m1 H1 H' x z q => hk a S b m1 H1 H' x z q (PstS.mono x h)
  | exc e S => exact fun c o m1 H1 H' x z q => h σ c o m1 H1 H' x z (Ze.mono x zz) q
  | stk => exact h
def SS (K : PySem.W.Frag) (mg : Mg) (W : WX) (t : TS) (f : SM) : Prop :=
  ∀ fr m Hc env S σ H E, Zh K fr m Hc S H → Ze K Hc m env σ → PstS K mg fr m Hc W E (f env S) → t E σ H
structure ZS (X : Cx) (W : WX) (st : Stmt) (t : TS) (f : SM) : Prop where
  ps : PS X st t
  sd : SS X.K X.mg W t f
structure ZSs (X : Cx) (W : WX) (st : List Stmt) (t : TS) (f : SM) : Prop where
  ps : PSs X st t
  sd : SS X.K X.mg W t f
def zNext : SM := fun env S => .mk (.next env) S
def Ss.seq (r : Ss) (k : SM) : Ss := match r with
  | .mk (.next env) S => k env S
  | r => r
@[simp] theorem Ss.seq_next (env : En) (S : Sto) (k : SM) : (Ss.mk (.next env) S).seq k = k env S := rfl
@[simp] theorem Ss.seq_ret (d : D) (S : Sto) (k : SM) : (Ss.mk (.ret d) S).seq k = .mk (.ret d) S := rfl
@[simp] theorem Ss.seq_brk (d : En) (S : Sto) (k : SM) : (Ss.mk (.brk d) S).seq k = .mk (.brk d) S := rfl
@[simp] theorem Ss.seq_cnt (d : En) (S : Sto) (k : SM) : (Ss.mk (.cnt d) S).seq k = .mk (.cnt d) S := rfl
@[simp] theorem Ss.seq_exc (e : XV) (d : En) (S : Sto) (k : SM) : (Ss.mk (.exc e d) S).seq k = .mk (.exc e d) S := rfl
@[simp] theorem Ss.seq_stk (k : SM) : Ss.stk.seq k = .stk := rfl
def zSeq (a b : SM) : SM := fun env S => (a env S).seq b
def zStk : SM := fun _ _ => .stk
section
variable {X : Cx} {W : WX} {pos : Pos} {st : Stmt} {rest : List Stmt} {t u : TS} {f g : SM} {e c : Expr} {te : TE} {fe : EM D} {tc : TT} {gc : EM Bool}
theorem zss_nil : ZSs X W [] tNext zNext := ⟨pss_nil, fun fr m Hc env S σ H E z zz p => p σ m Hc H (Ex.refl _ _) z zz⟩
theorem zss_cons (h1 : ZS X W st t f) (h2 : ZSs X W rest u g) : ZSs X W (st :: rest) (tSeq t u) (zSeq f g) := by
  refine ⟨pss_cons h1.ps h2.ps, ?_⟩
  intro fr m Hc env S σ H E z zz p
  refine h1.sd fr m Hc env S σ H _ z zz ?_
  unfold zSeq at p
  cases h : f env S with
  | stk => rw [h] at p; exact p
  | mk fl S1 =>
    rw [h] at p
    cases fl with
    | next env1 => exact fun σ' m' Hc' H' x z' zz' => h2.sd fr m' Hc' env1 S1 σ' H' E z' zz' (PstS.mono x p)
    | ret d => exact p
    | brk d => exact p
    | cnt d => exact p
    | exc e d => exact p
theorem zss_one (h1 : ZS X W st t f) : ZSs X W [st] t f := ⟨pss_one h1.ps, h1.sd⟩
theorem zs_pass : ZS X W (.Pass pos) tNext zNext := ⟨ps_pass, fun fr m Hc env S σ H E z zz p => p σ m Hc H (Ex.refl _ _) z zz⟩
def zBrk : SM := fun env S => .mk (.brk env) S
def zCnt : SM := fun env S => .mk (.cnt env) S
theorem zs_break : ZS X W (.Break pos) tBreak zBrk := ⟨ps_break, fun fr m Hc env S σ H E z zz p => p σ m Hc H (Ex.refl _ _) z zz⟩
theorem zs_continue : ZS X W (.Continue pos) tCont zCnt := ⟨ps_continue, fun fr m Hc env S σ H E z zz p => p σ m Hc H (Ex.refl _ _) z zz⟩
theorem zs_doc {x j pos pos'} : ZS X W (.Expr (.Constant (.str x) j pos) pos') tNext zNext := ⟨ps_doc, fun fr m Hc env S σ H E z zz p => p σ m Hc H (Ex.refl _ _) z zz⟩
theorem zs_never : ZS X W st tNever zStk := ⟨ps_never, fun fr m Hc env S σ H E z zz p => p⟩
theorem zss_never : ZSs X W rest tNever zStk := ⟨pss_never, fun fr m Hc env S σ H E z zz p => p⟩
def zExpr (a : EM D) : SM := fun env S => (a env S).st env fun _ S1 => .mk (.next env) S1
theorem zs_expr (he : ZE X W e te fe) (hs : swapsWith e none pos.line X.env = pure false := by rfl) : ZS X W (.Expr e pos) (tDrop te) (zExpr fe) := by
  refine ⟨ps_expr he.pe hs, ?_⟩
  intro fr m Hc env S σ H E z zz p
  refine he.sd fr m Hc env S σ H _ z zz (p.bnd zz fun d S1 v m1 Hc1 H1 x1 z1 r1 p1 => ?_)
  exact p1 σ m1 Hc1 H1 (Ex.refl _ _) z1 (Ze.mono x1 zz)
def zRet (a : EM D) : SM := fun env S => (a env S).st env fun d S1 => .mk (.ret d) S1
theorem zs_ret (he : ZE X W e te fe) : ZS X W (.Return (some e) pos) (tRet te) (zRet fe) := by
  refine ⟨ps_ret he.pe, ?_⟩
  intro fr m Hc env S σ H E z zz p
  refine he.sd fr m Hc env S σ H _ z zz (p.bnd zz fun d S1 v m1 Hc1 H1 x1 z1 r1 p1 => ?_)
  exact p1 v m1 Hc1 H1 (Ex.refl _ _) z1 r1
def zRetN : SM := fun env S => .mk (.ret .non) S
theorem zs_retN : ZS X W (.Return none pos) tRetN zRetN := ⟨ps_retN, fun fr m Hc env S σ H E z zz p => p .non m Hc H (Ex.refl _ _) z rfl⟩
def zIfS (c : EM Bool) (a b : SM) : SM := fun env S => (c env S).st env fun k S1 => if k = true then a env S1 else b env S1
theorem zs_if {a b : List Stmt} (hc : ZT X W c tc gc) (ha : ZSs X W a t f) (hb : ZSs X W b u g) : ZS X W (.If c a b pos) (tIfS tc t u) (zIfS gc f g) := by
  refine ⟨ps_if hc.pt ha.ps hb.ps, ?_⟩
  intro fr m Hc env S σ H E z zz p
  refine hc.sd fr m Hc env S σ H _ z zz (p.bnd zz fun k S1 k' m1 Hc1 H1 x1 z1 r1 p1 => ?_)
  cases r1
  cases k with
  | true => exact iteT (ha.sd fr m1 Hc1 env S1 σ H1 E z1 (Ze.mono x1 zz) p1)
  | false => exact iteF (hb.sd fr m1 Hc1 env S1 σ H1 E z1 (Ze.mono x1 zz) p1)
end

/-! ### targets -/
abbrev GM := D → En → Option En
/-- slots: which the target stores -/
def SG (K : PySem.W.Frag) (t : TG) (sl : List Nat) (g : GM) : Prop :=
  ∀ fr m Hc S H v d env env' σ Q, Zh K fr m Hc S H → Rep K Hc m d v → Ze K Hc m env σ → g d env = some env' → (∀ σ', Ze K Hc m env' σ' → (∀ vs, (∀ i ∈ sl, i ∈ vs) → wipe σ' vs = wipe σ vs) → Q σ' H) → t v σ H Q
def SGs (K : PySem.W.Frag) (t : TGs) (sl : List Nat) (g : List D → En → Option En) : Prop :=
  ∀ fr m Hc S H vs ds env env' σ Q, Zh K fr m Hc S H → Reps K Hc m ds vs → Ze K Hc m env σ → g ds env = some env' → (∀ σ', Ze K Hc m env' σ' → (∀ vs, (∀ i ∈ sl, i ∈ vs) → wipe σ' vs = wipe σ vs) → Q σ' H) → t vs σ H Q
structure ZG (X : Cx) (e : Expr) (t : TG) (sl : List Nat) (g : GM) : Prop where
  pg : PG X e t
  sd : SG X.K t sl g
structure ZGs (X : Cx) (es : List Expr) (t : TGs) (sl : List Nat) (g : List D → En → Option En) : Prop where
  pg : PGs X es t
  sd : SGs X.K t sl g
def zgName (i : Nat) : GM := fun d env => some (env.set i (some d))
def zgNil : List D → En → Option En
  | [], env => some env
  | _, _ => none
def zgCons (g : GM) (gs : List D → En → Option En) : List D → En → Option En
  | d :: ds, env => match g d env with
    | some e => gs ds e
    | none => none
  | _, _ => none
def zgTup (n : Nat) (gs : List D → En → Option En) : GM := fun d env => match d with
  | .tup ds => if ds.length = n then gs ds env else none
  | _ => none
theorem wipe_set {σ : L2.St} {i : Nat} {v : Option V} : ∀ {vs : List Nat}, i ∈ vs → wipe (σ.set i v) vs = wipe σ vs
  | [], h => by cases h
  | w :: vs, h => by
    show (wipe (σ.set i v) vs).set w none = (wipe σ vs).set w none
    by_cases hw : i ∈ vs
    · rw [wipe_set hw]
    · have e : w = i := by
        rcases List.mem_cons.mp h with e1 | e1
        · exact e1.symm
        · exact absurd e1 hw
      subst e
      have q : ∀ (vs : List Nat), w ∉ vs → wipe (σ.set w v) vs = (wipe σ vs).set w v := by
        intro vs
        induction vs with
        | nil => intro _; rfl
        | cons u us ih =>
          intro hn
          have h1 : u ≠ w := fun e => hn (by rw [e]; exact List.mem_cons_self)
          have h2 : w ∉ us := fun e => hn (List.mem_cons_of_mem _ e)
          show (wipe (σ.set w v) us).set u none = ((wipe σ us).set u none).set w v
          rw [ih h2, List.set_comm _ _ h1]
      rw [q vs hw, List.set_set]
section
variable {X : Cx} {pos : Pos} {e : Expr} {es : List Expr} {t : TG} {ts : TGs} {sl sl2 : List Nat} {g : GM} {gs : List D → En → Option En}
theorem zg_name {i : Nat} {x : Str} (hN : X.N.Nodup) (hi : X.N[i]? = some x := by rfl) (hx : Loc X.env.scope x := by first | exact .inl rfl | exact .inr rfl) (hf : X.fn x = true ∨ X.env.scope.names.lookup x = some .local := by first | exact .inl rfl | exact .inr rfl) (hot : Hot.free i := by exact trivial) : ZG X (.Name x pos) (gName i) [i] (zgName i) := by
  refine ⟨pg_name hN hi hx hf, ?_⟩
  intro fr m Hc S H v d env env' σ Q z r zz eg q
  cases eg
  exact q _ (zz.set i r hot) fun vs hv => wipe_set (hv i List.mem_cons_self)
theorem zgs_nil : ZGs X [] gNil [] zgNil := by
  refine ⟨pgs_nil, ?_⟩
  intro fr m Hc S H vs ds env env' σ Q z r zz eg q
  cases ds with
  | nil => cases r; cases eg; exact ⟨rfl, q σ zz fun _ _ => rfl⟩
  | cons d ds => cases eg
theorem zgs_cons (h1 : ZG X e t sl g) (h2 : ZGs X es ts sl2 gs) (hs : (assignEach (e :: es) X.env).map (·.2) = assign e X.env :: (assignEach es X.env).map (·.2) := by rfl) : ZGs X (e :: es) (gCons t ts) (sl ++ sl2) (zgCons g gs) := by
  refine ⟨pgs_cons h1.pg h2.pg hs, ?_⟩
  intro fr m Hc S H vs ds env env' σ Q z r zz eg q
  cases ds with
  | nil => cases eg
  | cons d ds =>
    obtain ⟨v, r', rfl, r1, r2⟩ := r
    unfold zgCons at eg
    cases h : g d env with
    | none => simp [h] at eg
    | some env1 =>
      simp only [h] at eg
      refine ⟨v, r', rfl, h1.sd fr m Hc S H v d env env1 σ _ z r1 zz h fun σ1 zz1 w1 => ?_⟩
      refine h2.sd fr m Hc S H r' ds env1 env' σ1 _ z r2 zz1 eg fun σ2 zz2 w2 => ?_
      exact q σ2 zz2 fun vs hv => (w2 vs fun i hi => hv i (List.mem_append_right _ hi)).trans (w1 vs fun i hi => hv i (List.mem_append_left _ hi))
theorem zg_tupK {K : PySem.W.Frag} {k n : Nat} (hK : X.K = K) (hc : X.calm = true) (h : ZGs X es ts sl gs) (hn : (assignEach es X.env).length = n := by rfl) (hst : (assignEach es X.env).findIdx? (·.1) = none := by rfl) : ZG X (.Tuple es k pos) (gTup K n ts) sl (zgTup n gs) := by
  subst hK
  refine ⟨pg_tup hc h.pg hn hst, ?_⟩
  intro fr m Hc S H v d env env' σ Q z r zz eg q
  cases d <;> first | cases eg; done | skip
  rename_i ds
  obtain ⟨a, vs, rfl, hq, rr⟩ := r
  unfold zgTup at eg
  by_cases hl : ds.length = n
  · simp only [hl, if_true] at eg
    exact ⟨a, vs, rfl, .of (z.sub _ _ hq), by rw [rr.length]; exact hl, h.sd fr m Hc S H vs ds env env' σ Q z rr zz eg q⟩
  · simp only [hl] at eg; cases eg
end
theorem zg_tup {X : Cx} {pos : Pos} {es : List Expr} {ts : TGs} {sl : List Nat} {gs : List D → En → Option En} {k n : Nat} (hc : X.calm = true) (h : ZGs X es ts sl gs) (hn : (assignEach es X.env).length = n := by rfl) (hst : (assignEach es X.env).findIdx? (·.1) = none := by rfl) : ZG X (.Tuple es k pos) (gTup X.K n ts) sl (zgTup n gs) := zg_tupK rfl hc h hn hst
/-- target = e -/
def zAsg (a : EM D) (g : GM) : SM := fun env S => (a env S).st env fun d S1 => match g d env with
  | some env' => .mk (.next env') S1
  | none => .stk
def zSet (i : Nat) (a : EM D) : SM := fun env S => (a env S).st env fun d S1 => .mk (.next (env.set i (some d))) S1
section
variable {X : Cx} {W : WX} {pos pos' : Pos} {e tg : Expr} {te : TE} {fe : EM D} {t : TG} {sl : List Nat} {g : GM}
theorem ss_asg {K mg} (he : SE K mg W te fe) (hg : SG K t sl g) : SS K mg W (tAsg te t) (zAsg fe g) := by
  intro fr m Hc env S σ H E z zz p
  refine he fr m Hc env S σ H _ z zz (p.bnd zz fun d S1 v m1 Hc1 H1 x1 z1 r1 p1 => ?_)
  cases h : g d env with
  | none => simp [h] at p1; exact p1.elim
  | some env' =>
    simp only [h] at p1
    exact hg fr m1 Hc1 S1 H1 v d env env' σ _ z1 r1 (Ze.mono x1 zz) h fun σ' zz' _ => p1 σ' m1 Hc1 H1 (Ex.refl _ _) z1 zz'
theorem zs_asg (he : ZE X W e te fe) (hg : ZG X tg t sl g) (hs : swapsWithSole [tg] e pos.line X.env = pure false := by rfl) (hw : swappedStores [tg] e X.env = pure none := by rfl) (h1 : (assignEach [tg] X.env).map (·.2) = [assign tg X.env] := by rfl) :
    ZS X W (.Assign [tg] e pos) (tAsg te t) (zAsg fe g) := ⟨ps_asg he.pe hg.pg hs hw h1, ss_asg he.sd hg.sd⟩
theorem ss_set {K mg} {i : Nat} (he : SE K mg W te fe) (hot : Hot.free i := by exact trivial) : SS K mg W (tAsg te (gName i)) (zSet i fe) := by
  intro fr m Hc env S σ H E z zz p
  refine he fr m Hc env S σ H _ z zz (p.bnd zz fun d S1 v m1 Hc1 H1 x1 z1 r1 p1 => ?_)
  exact p1 _ m1 Hc1 H1 (Ex.refl _ _) z1 ((Ze.mono x1 zz).set i r1 hot)
theorem zs_set {i : Nat} {x : Str} (hN : X.N.Nodup) (he : ZE X W e te fe) (hi : X.N[i]? = some x := by rfl) (hx : Loc X.env.scope x := by first | exact .inl rfl | exact .inr rfl) (hs : swapsWith e (some (.Name x pos')) pos.line X.env = pure false := by rfl) (hf : X.fn x = true ∨ X.env.scope.names.lookup x = some .local := by first | exact .inl rfl | exact .inr rfl) (hot : Hot.free i := by exact trivial) :
    ZS X W (.Assign [.Name x pos'] e pos) (tAsg te (gName i)) (zSet i fe) := ⟨ps_set hN hi hx he.pe hs hf, ss_set he.sd hot⟩
end
/-! o[i] = e -/
def stSet (o i v : D) (S : Sto) : Option Sto := match o, i with
  | .ptr n, .int k => match S[n]? with
    | some (.lst ds) => match ixN ds.length k with
      | some j => some (S.set n (.lst (ds.set j v)))
      | none => none
    | _ => none
  | _, _ => none
def zPut (o i e : EM D) : SM := fun env S => (e env S).st env fun v S1 => (o env S1).st env fun x S2 => (i env S2).st env fun y S3 => match stSet x y v S3 with
  | some S4 => .mk (.next env) S4
  | none => .stk
theorem stSet_ok {K fr m Hc S H S'} {o i v : D} {ov iv vv : V} {Q : Hp → Prop} (z : Zh K fr m Hc S H) (ro : Rep K Hc m o ov) (ri : Rep K Hc m i iv) (rv : Rep K Hc m v vv) (e : stSet o i v S = some S') (q : ∀ H', Zh K fr m Hc S' H' → Q H') : rSetL ov iv vv H Q := by
  unfold stSet at e
  cases o <;> first | cases e; done | skip
  cases i <;> first | cases e; done | skip
  rename_i n k
  obtain ⟨a, rfl, hn⟩ := ro
  cases ri
  cases h : S[n]? with
  | none => simp [h] at e
  | some c =>
    cases c with
    | gone => simp [h] at e
    | dct ks0 ds0 => simp [h] at e
    | lst ds =>
      simp only [h] at e
      obtain ⟨_, vs, h1, h2⟩ := z.cel n a _ hn h
      cases h3 : ixN ds.length k with
      | none => simp [h3] at e
      | some j =>
        simp only [h3] at e
        cases e
        exact ⟨a, vs, k, j, rfl, rfl, h1, by rw [h2.length]; exact h3, q _ (z.wr hn h (h2.set j rv))⟩
section
variable {X : Cx} {W : WX} {pos tpos : Pos} {o i e : Expr} {to ti te : TE} {fo fi fe : EM D} {tip : TIp} {op : Operator} {o' : D → D → Sto → Rs D} {r : R2}
theorem zs_put (ho : ZE X W o to fo) (hi : ZE X W i ti fi) (he : ZE X W e te fe) (hs : swapsWithSole [.Subscript o i tpos] e pos.line X.env = pure false := by rfl) (hw : swappedStores [.Subscript o i tpos] e X.env = pure none := by rfl)
    (ha : ∀ v, assign (.Subscript o i tpos) X.env v = (do
      let a ← holding [v] (eval o X.env); let b ← holding [v, a] (eval i X.env)
      standAt tpos; holding [v, a, b] (setItem a b v); release [v, a, b] []) := by intro _; rfl) : ZS X W (.Assign [.Subscript o i tpos] e pos) (tAsg te (gSub to ti rSetL)) (zPut fo fi fe) := by
  refine ⟨ps_asg he.pe (pg_sub ho.pe hi.pe set_list ha) hs hw, ?_⟩
  intro fr m Hc env S σ H E z zz p
  refine he.sd fr m Hc env S σ H _ z zz (p.bnd zz fun d S1 v m1 Hc1 H1 x1 z1 r1 p1 => ?_)
  refine ho.sd fr m1 Hc1 env S1 σ H1 _ z1 (Ze.mono x1 zz) (p1.bnd (Ze.mono x1 zz) fun x S2 ov m2 Hc2 H2 x2 z2 r2 p2 => ?_)
  have zz2 := Ze.mono (x1.trans x2) zz
  refine hi.sd fr m2 Hc2 env S2 σ H2 _ z2 zz2 (p2.bnd zz2 fun y S3 iv m3 Hc3 H3 x3 z3 r3 p3 => ?_)
  cases h : stSet x y d S3 with
  | none => simp [h] at p3; exact p3.elim
  | some S4 =>
    simp only [h] at p3
    exact stSet_ok z3 (Rep.mono x3 _ _ r2) r3 (Rep.mono (x2.trans x3) _ _ r1) h fun H' z' => p3 σ m3 Hc3 H' (Ex.refl _ _) z' (Ze.mono x3 zz2)
/-- name op= e -/
def zAug (i : Nat) (o : D → D → Sto → Rs D) (a : EM D) : SM := fun env S => match env[i]? with
  | some (some d) => (a env S).st env fun y S1 => (o d y S1).st env fun w S2 => .mk (.next (env.set i (some w))) S2
  | _ => .stk
theorem zs_aug {k : Nat} {x : Str} {pos' : Pos} (hN : X.N.Nodup) (he : ZE X W e te fe) (ho : ZO X (inplaceOp op) r o') (hi : X.N[k]? = some x := by rfl) (hx : Loc X.env.scope x := by first | exact .inl rfl | exact .inr rfl) (hf : X.fn x = true ∨ X.env.scope.names.lookup x = some .local := by first | exact .inl rfl | exact .inr rfl) (hot : Hot.free k := by exact trivial) :
    ZS X W (.AugAssign (.Name x pos') op e pos) (tAug k te r) (zAug k o' fe) := by
  refine ⟨ps_aug hN hi hx he.pe ho.op hf, ?_⟩
  intro fr m Hc env S σ H E z zz p
  unfold zAug at p
  cases h : env[k]? with
  | none => simp [h] at p; exact p.elim
  | some q =>
    cases q with
    | none => simp [h] at p; exact p.elim
    | some d =>
      simp only [h] at p
      obtain ⟨v, h1, h2⟩ := zz.at_ k d h
      refine ⟨v, h1, he.sd fr m Hc env S σ H _ z zz (p.bnd zz fun y S1 u m1 Hc1 H1 x1 z1 r1 p1 => ?_)⟩
      have zz1 := Ze.mono x1 zz
      refine ho.sd fr m1 Hc1 S1 H1 v u d y _ _ z1 (Rep.mono x1 _ _ h2) r1 (p1.bnd zz1 fun w S2 wv m2 Hc2 H2 x2 z2 r2 p2 => ?_)
      exact p2 _ m2 Hc2 H2 (Ex.refl _ _) z2 ((Ze.mono x2 zz1).set k r2 hot)
/-- o[i] op= e -/
def ptrAt (x y : D) (S : Sto) : Option D := match x, y with
  | .ptr n, .int k => match S[n]? with
    | some (.lst ds) => L2.atI ds k
    | _ => none
  | _, _ => none
theorem ptrAt_ok {K fr m Hc S H} {x y d : D} {ov iv : V} {Q : VK} (z : Zh K fr m Hc S H) (ro : Rep K Hc m x ov) (ri : Rep K Hc m y iv) (e : ptrAt x y S = some d) (q : ∀ v, Rep K Hc m d v → Q v H) : rIxL K ov iv H Q := by
  unfold ptrAt at e
  cases x <;> first | cases e; done | skip
  cases y <;> first | cases e; done | skip
  rename_i n k
  obtain ⟨a, rfl, hn⟩ := ro
  cases ri
  cases h : S[n]? with
  | none => simp [h] at e
  | some c =>
    cases c with
    | gone => simp [h] at e
    | dct ks0 ds0 => simp [h] at e
    | lst ds =>
      simp only [h] at e
      obtain ⟨_, vs, h1, h2⟩ := z.cel n a _ hn h
      obtain ⟨v, h4, h5⟩ := h2.atI e
      exact ⟨a, vs, k, v, rfl, rfl, .of h1, h4, q v h5⟩
def zAugS (o i : EM D) (op : D → D → Sto → Rs D) (e : EM D) : SM := fun env S => (o env S).st env fun x S1 => (i env S1).st env fun y S2 => match ptrAt x y S2 with
  | some old => (e env S2).st env fun w S4 => (op old w S4).st env fun new S5 => match stSet x y new S5 with
    | some S6 => .mk (.next env) S6
    | none => .stk
  | none => .stk
theorem zs_augS (ho : ZE X W o to fo) (hi : ZE X W i ti fi) (he : ZE X W e te fe) (hp : ZO X (inplaceOp op) r o')
    (ha : ∀ ov iv new, augStore i ov iv new = (do holding [new, ov, iv] (setItem ov iv new); release [new, ov, iv] []; pure .next) := by intros; rfl) : ZS X W (.AugAssign (.Subscript o i tpos) op e pos) (tAugS to ti te (rIxL X.K) r rSetL) (zAugS fo fi o' fe) := by
  refine ⟨ps_augS ho.pe hi.pe get_list he.pe hp.op set_list ha, ?_⟩
  intro fr m Hc env S σ H E z zz p
  refine ho.sd fr m Hc env S σ H _ z zz (p.bnd zz fun x S1 ov m1 Hc1 H1 x1 z1 r1 p1 => ?_)
  have zz1 := Ze.mono x1 zz
  refine hi.sd fr m1 Hc1 env S1 σ H1 _ z1 zz1 (p1.bnd zz1 fun y S2 iv m2 Hc2 H2 x2 z2 r2 p2 => ?_)
  have zz2 := Ze.mono x2 zz1
  have ro := Rep.mono x2 _ _ r1
  cases h : ptrAt x y S2 with
  | none => simp [h] at p2; exact p2.elim
  | some old =>
    simp only [h] at p2
    refine ptrAt_ok z2 ro r2 h fun oldv h5 => ?_
    refine he.sd fr m2 Hc2 env S2 σ H2 _ z2 zz2 (p2.bnd zz2 fun w S4 wv m4 Hc4 H4 x4 z4 r4 p4 => ?_)
    have zz4 := Ze.mono x4 zz2
    refine hp.sd fr m4 Hc4 S4 H4 oldv wv old w _ _ z4 (Rep.mono x4 _ _ h5) r4 (p4.bnd zz4 fun new S5 nv m5 Hc5 H5 x5 z5 r5 p5 => ?_)
    cases h6 : stSet x y new S5 with
    | none => simp [h6] at p5; exact p5.elim
    | some S6 =>
      simp only [h6] at p5
      exact stSet_ok z5 (Rep.mono (x4.trans x5) _ _ ro) (Rep.mono (x4.trans x5) _ _ r2) r5 h6 fun H' z' => p5 σ m5 Hc5 H' (Ex.refl _ _) z' (Ze.mono x5 zz4)
end
/-! ### methods of mutable lists -/
def dAppend (x : D) (ys : List D) (S : Sto) : Rs D := match x, ys with
  | .ptr n, [y] => match S[n]? with
    | some (.lst ds) => if ds.length < bigN then .ok .non (S.set n (.lst (ds ++ [y]))) else .stk
    | _ => .stk
  | _, _ => .stk
/-- the item, the place: list.pop(i) -/
def popAt (ds : List D) (i : Int) : Option (D × List D) := match ixN ds.length i with
  | some j => match ds[j]? with
    | some d => some (d, ds.eraseIdx j)
    | none => none
  | none => none
def dPopAt (x : D) (ys : List D) (S : Sto) : Rs D := match x, ys with
  | .ptr n, [.int i] => match S[n]? with
    | some (.lst ds) => if -1000000 ≤ i ∧ i ≤ 1000000 then match popAt ds i with
      | some (d, es) => .ok d (S.set n (.lst es))
      | none => .stk
      else .stk
    | _ => .stk
  | _, _ => .stk
def dExtend (x : D) (ys : List D) (S : Sto) : Rs D := match x, ys with
  | .ptr n, [.lst es] => match S[n]? with
    | some (.lst ds) => if ds.length + es.length ≤ bigN then .ok .non (S.set n (.lst (ds ++ es))) else .stk
    | _ => .stk
  | _, _ => .stk
def MS (K : PySem.W.Frag) (mg : Mg) (r : V → List V → Hp → VK → Prop) (o : D → List D → Sto → Rs D) : Prop :=
  ∀ fr m Hc S H x xs d ds w Q, Zh K fr m Hc S H → Rep K Hc m d x → Reps K Hc m ds xs → Pst K mg fr (fun Hc m d v => Rep K Hc m d v) m Hc w Q (o d ds S) → r x xs H Q
theorem ms_append {K mg} : MS K mg rAppend dAppend := by
  intro fr m Hc S H x xs d ds w Q z r1 r2 p
  unfold dAppend at p
  split at p
  · rename_i n y
    obtain ⟨a, rfl, hn⟩ := r1
    obtain ⟨v, rfl, rv⟩ := r2.one_of
    cases h : S[n]? with
    | none => simp [h] at p; exact p.elim
    | some c =>
      cases c with
      | gone => simp [h] at p; exact p.elim
      | dct ks0 ds0 => simp [h] at p; exact p.elim
      | lst es =>
        simp only [h] at p
        by_cases hl : es.length < bigN
        · rw [if_pos hl] at p
          obtain ⟨_, vs, h1, h2⟩ := z.cel n a _ hn h
          exact ⟨a, vs, v, rfl, rfl, h1, by rw [h2.length]; exact Nat.lt_of_lt_of_le hl (by decide), p _ m Hc _ (Ex.refl _ _) (z.wr hn h (h2.append (Reps.one rv))) rfl⟩
        · rw [if_neg hl] at p; exact p.elim
  · exact p.elim
theorem ms_popAt {K mg} : MS K mg rPopAt dPopAt := by
  intro fr m Hc S H x xs d ds w Q z r1 r2 p
  unfold dPopAt at p
  split at p
  · rename_i n i
    obtain ⟨a, rfl, hn⟩ := r1
    obtain ⟨v, rfl, rv⟩ := r2.one_of
    cases rv
    cases h : S[n]? with
    | none => simp [h] at p; exact p.elim
    | some c =>
      cases c with
      | gone => simp [h] at p; exact p.elim
      | dct ks0 ds0 => simp [h] at p; exact p.elim
      | lst es =>
        simp only [h] at p
        by_cases hl : -1000000 ≤ i ∧ i ≤ 1000000
        · rw [if_pos hl] at p
          obtain ⟨_, vs, h1, h2⟩ := z.cel n a _ hn h
          unfold popAt at p
          cases h3 : ixN es.length i with
          | none => simp [h3] at p; exact p.elim
          | some j =>
            cases h4 : es[j]? with
            | none => simp [h3, h4] at p; exact p.elim
            | some d =>
              simp only [h3, h4] at p
              obtain ⟨u, h5, h6⟩ := h2.get h4
              exact ⟨a, vs, i, j, u, rfl, rfl, h1, by omega, by omega, by rw [h2.length]; exact (ixN_seq h3).1, h5, p _ m Hc _ (Ex.refl _ _) (z.wr hn h (h2.eraseIdx j)) h6⟩
        · rw [if_neg hl] at p; exact p.elim
  · exact p.elim
theorem ms_extend {K mg} : MS K mg rExtend dExtend := by
  intro fr m Hc S H x xs d ds w Q z r1 r2 p
  unfold dExtend at p
  split at p
  · rename_i n ys
    obtain ⟨a, rfl, hn⟩ := r1
    obtain ⟨v, rfl, rv⟩ := r2.one_of
    obtain ⟨b, us, rfl, hb, ru⟩ := rv
    cases h : S[n]? with
    | none => simp [h] at p; exact p.elim
    | some c =>
      cases c with
      | gone => simp [h] at p; exact p.elim
      | dct ks0 ds0 => simp [h] at p; exact p.elim
      | lst es =>
        simp only [h] at p
        by_cases hl : es.length + ys.length ≤ bigN
        · rw [if_pos hl] at p
          obtain ⟨_, vs, h1, h2⟩ := z.cel n a _ hn h
          exact ⟨a, b, vs, us, rfl, rfl, h1, z.sub _ _ hb, by rw [h2.length, ru.length]; exact big_le hl, p _ m Hc _ (Ex.refl _ _) (z.wr hn h (h2.append ru)) rfl⟩
        · rw [if_neg hl] at p; exact p.elim
  · exact p.elim
def zMeth (o : D → List D → Sto → Rs D) (a : EM D) (xs : EM (List D)) : EM D := fun env S => (a env S).bnd fun x S1 => (xs env S1).bnd fun ys S2 => o x ys S2
/-- a mutable list as a receiver -/
def isPtrL (x : D) (S : Sto) : Bool := match x with
  | .ptr n => match S[n]? with
    | some (.lst _) => true
    | _ => false
  | _ => false
def zMethL (o : D → List D → Sto → Rs D) (a : EM D) (xs : EM (List D)) : EM D := fun env S => (a env S).bnd fun x S1 => if isPtrL x S1 = true then (xs env S1).bnd fun ys S2 => o x ys S2 else .stk
section
variable {X : Cx} {W : WX} {apos cpos : Pos} {name : Str} {id : String} {o e : Expr} {es : List Expr} {to : TE} {fo : EM D} {t : TA} {f : EM (List D)} {r : V → List V → Hp → VK → Prop} {op : D → List D → Sto → Rs D}
theorem ze_methL (slot : Slot "list" name id) (hty : typeOf (.builtin id) = pure (.type "method_descriptor")) (hm : MtR X id r) (hs : MS X.K X.mg r op) (ho : ZE X W o to fo) (ha : ZA X W (e :: es) t f)
    (hbase : attributeBase o name X.env (eval o X.env) = eval o X.env := by rfl) (hfew : ((backTo cpos (starEach (e :: es) X.env)).all (fun x => !x.1) && (backToKw cpos (keywordEach [] X.env)).all (fun x => x.1.isSome) &&
      decide ((e :: es).length + ([] : List Keyword).length + (if ([] : List Keyword).isEmpty then 0 else 1) < 30)) = true := by rfl) (hline : (apos.endLine == cpos.line) = true := by rfl) (hst : starEach (e :: es) X.env = (false, eval e X.env) :: starEach es X.env := by rfl) (hplain : (backTo cpos (starEach es X.env)).any (·.1) = false := by rfl) :
    ZE X W (.Call (.Attribute o name apos) (e :: es) [] cpos) (tBM X.K "list" r to t) (zMethL op fo f) := by
  refine ⟨pe_bm PySem.F.plainAttrs_list slot hty hm ho.pe ha.pa hbase hfew hline hst hplain, ?_⟩
  intro fr m Hc env S σ H Q z zz p
  refine ho.sd fr m Hc env S σ H _ z zz (p.bnd fun x S1 v m1 Hc1 H1 x1 z1 r1 p1 => ?_)
  by_cases hp : isPtrL x S1 = true
  · rw [if_pos hp] at p1
    cases x <;> first | (simp [isPtrL] at hp; done) | skip
    rename_i n
    have r1' := r1
    obtain ⟨a, rfl, hn⟩ := r1
    cases h : S1[n]? with
    | none => simp [isPtrL, h] at hp
    | some c =>
      cases c with
      | gone => simp [isPtrL, h] at hp
      | dct ks0 ds0 => simp [isPtrL, h] at hp
      | lst ds =>
        obtain ⟨_, vs, h1, h2⟩ := z1.cel n a _ hn h
        refine ⟨.inl ⟨rfl, _, .inl (.inl h1)⟩, ?_⟩
        refine ha.sd fr m1 Hc1 env S1 σ H1 _ z1 (Ze.mono x1 zz) (p1.bnd fun ys S2 us m2 Hc2 H2 x2 z2 r2 p2 => ?_)
        exact hs fr m2 Hc2 S2 H2 _ us _ ys _ Q z2 (Rep.mono x2 _ _ r1') r2 p2
  · rw [if_neg hp] at p1; exact p1.elim
/-- n.bit_length() -/
def dBits (x : D) (S : Sto) : Rs D := match x with
  | .int i => .ok (.int (Builtin.Int.intBits i : Nat)) S
  | _ => .stk
theorem ze_bits (ho : ZE X W o to fo) (hbase : attributeBase o "bit_length" X.env (eval o X.env) = eval o X.env := by rfl) (hline : (apos.endLine == cpos.line) = true := by rfl) : ZE X W (.Call (.Attribute o "bit_length" apos) [] [] cpos) (tBits to) (zUn dBits fo) := by
  refine ⟨pe_bits ho.pe hbase hline, ?_⟩
  intro fr m Hc env S σ H Q z zz p
  refine ho.sd fr m Hc env S σ H _ z zz (p.bnd fun x S1 v m1 Hc1 H1 x1 z1 r1 p1 => ?_)
  unfold dBits at p1
  cases x <;> first | exact p1.elim | skip
  cases r1
  exact ⟨_, rfl, p1.use z1 rfl⟩
end

/-! ### what is walked -/
structure Src where
  items : List D
  gd : Option Nat
open Classical in
noncomputable def Src.okAt (s : Src) (S : Sto) : Bool := match s.gd with
  | none => true
  | some n => decide (S[n]? = some (.lst s.items))
@[simp] theorem Src.okAt_none (xs : List D) (S : Sto) : Src.okAt ⟨xs, none⟩ S = true := rfl
abbrev EI := EM Src
def ItO (K : PySem.W.Frag) (m : List Addr) (Hc : Hp) (J : It) (s : Src) : Prop :=
  ∀ fr m1 Hc1 S1 H1 (i : Nat), Ex m Hc m1 Hc1 → Zh K fr m1 Hc1 S1 H1 → s.okAt S1 = true →
    (∀ d, s.items[i]? = some d → J.go i H1 ∧ ∀ x H2, J.yld i H1 x H2 → ∃ m2 Hc2, Ex m1 Hc1 m2 Hc2 ∧ Zh K fr m2 Hc2 S1 H2 ∧ Rep K Hc2 m2 d x) ∧ (s.items.length ≤ i → J.stop i H1)
def rI (K : PySem.W.Frag) : Hp → List Addr → Src → It → Prop := fun Hc m s J => ItO K m Hc J s
structure ZI (X : Cx) (W : WX) (tg iter : Expr) (wi : TI) (f : EI) : Prop where
  pi : PI X tg iter wi
  sd : ∀ fr m Hc env S σ H R, Zh X.K fr m Hc S H → Ze X.K Hc m env σ → Pst X.K X.mg fr (rI X.K) m Hc (fun c o H => W c o σ H) R (f env S) → wi σ H R
theorem PI.or {X : Cx} {tg e : Expr} {w w' : TI} (h : PI X tg e w) (h' : PI X tg e w') : PI X tg e (fun σ H R => w σ H R ∨ w' σ H R) :=
  ⟨fun pins s σ H R I q => q.elim (h.run pins s σ H R I) (h'.run pins s σ H R I)⟩
theorem SqL.inj {K : PySem.W.Frag} {H : Hp} {a : Addr} {xs ys : List V} (h : H a = some (.lst xs)) (h' : SqL K H a ys) (hn : ∀ o, K.lookup a = some o → False) : xs = ys := by
  rcases h' with (q | ⟨o, q⟩) | ⟨o, _, _, q, _⟩
  · rw [h] at q; cases q; rfl
  · rw [h] at q; cases q
  · exact (hn o q).elim
theorem ito_range {K m Hc} (lo : Int) (n : Nat) : ItO K m Hc (Itr lo n) ⟨(List.range n).map fun k => D.int (lo + (k : Nat)), none⟩ := by
  intro fr m1 Hc1 S1 H1 i x z _
  refine ⟨fun d hd => ?_, fun hl => by simpa [Itr] using hl⟩
  rw [List.getElem?_map] at hd
  cases h : (List.range n)[i]? with
  | none => rw [h] at hd; cases hd
  | some j =>
    rw [h] at hd
    obtain ⟨hi, hj⟩ := List.getElem?_eq_some_iff.mp h
    simp at hj hi
    subst hj
    cases hd
    refine ⟨hi, fun x H2 hy => ?_⟩
    obtain ⟨e1, e2⟩ := hy
    subst e1 e2
    exact ⟨m1, Hc1, Ex.refl _ _, z, rfl⟩
/-- range(b) as ints -/
def rangeD (lo hi : Int) : List D := (List.range (hi - lo).toNat).map fun k => D.int (lo + (k : Nat))
def zRange1 (a : EM (List D)) : EI := fun env S => (a env S).bnd fun xs S1 => match xs with
  | [.int j] => if j ≤ 1000000 ∧ -1000000 ≤ j then .ok ⟨rangeD 0 j, none⟩ S1 else .stk
  | _ => .stk
def zRange2 (a : EM (List D)) : EI := fun env S => (a env S).bnd fun xs S1 => match xs with
  | [.int i, .int j] => if (j ≤ 1000000 ∧ -1000000 ≤ j) ∧ (i ≤ 1000000 ∧ -1000000 ≤ i) then .ok ⟨rangeD i j, none⟩ S1 else .stk
  | _ => .stk
section
variable {X : Cx} {W : WX} {tg a b : Expr} {p pos : Pos} {ta : TA} {fa : EM (List D)}
theorem zi_range1 (hg : Gl X "range") (hm : X.mg "range" = none) (ha : ZA X W [a] ta fa) (hs : starEach [a] X.env = [(false, eval a X.env)] := by rfl) : ZI X W tg (.Call (.Name "range" p) [a] [] pos) (iRng1 ta) (zRange1 fa) := by
  refine ⟨pi_range1 hg hm ha.pa hs, ?_⟩
  intro fr m Hc env S σ H R z zz q
  refine ha.sd fr m Hc env S σ H _ z zz (q.bnd fun xs S1 vs m1 Hc1 H1 x1 z1 r1 q1 => ?_)
  split at q1
  · rename_i j
    obtain ⟨v, rfl, rv⟩ := r1.one_of
    cases rv
    by_cases h : j ≤ 1000000 ∧ -1000000 ≤ j
    · rw [if_pos h] at q1
      refine ⟨j, rfl, by omega, by omega, q1.use z1 ?_⟩
      have := ito_range (K := X.K) (m := m1) (Hc := Hc1) 0 j.toNat
      unfold rangeD
      rw [Int.sub_zero]
      exact this
    · rw [if_neg h] at q1; exact q1.elim
  · exact q1.elim
theorem zi_range2 (hg : Gl X "range") (hm : X.mg "range" = none) (ha : ZA X W [a, b] ta fa) (hs : starEach [a, b] X.env = [(false, eval a X.env), (false, eval b X.env)] := by rfl) (hs2 : starEach [b] X.env = [(false, eval b X.env)] := by rfl) :
    ZI X W tg (.Call (.Name "range" p) [a, b] [] pos) (iRng2 ta) (zRange2 fa) := by
  refine ⟨pi_range2 hg hm ha.pa hs hs2, ?_⟩
  intro fr m Hc env S σ H R z zz q
  refine ha.sd fr m Hc env S σ H _ z zz (q.bnd fun xs S1 vs m1 Hc1 H1 x1 z1 r1 q1 => ?_)
  split at q1
  · rename_i i j
    obtain ⟨v, w, rfl, rv, rw'⟩ := r1.two_of
    cases rv; cases rw'
    by_cases h : (j ≤ 1000000 ∧ -1000000 ≤ j) ∧ (i ≤ 1000000 ∧ -1000000 ≤ i)
    · rw [if_pos h] at q1
      exact ⟨i, j, rfl, ⟨by omega, by omega, by omega, by omega⟩, q1.use z1 (ito_range i (j - i).toNat)⟩
    · rw [if_neg h] at q1; exact q1.elim
  · exact q1.elim
end
end Z

namespace Z
open PySem L2
open PySem.Spec PyProof.Rows
variable [Tabs]

theorem okAt_ptr {n : Nat} {ds : List D} {S : Sto} (h : Src.okAt ⟨ds, some n⟩ S = true) : S[n]? = some (.lst ds) := by
  unfold Src.okAt at h
  simpa using h
theorem okAt_ptr' {n : Nat} {ds : List D} {S : Sto} (h : S[n]? = some (.lst ds)) : Src.okAt ⟨ds, some n⟩ S = true := by
  unfold Src.okAt
  simpa using h
section
variable {K : PySem.W.Frag} {m : List Addr} {Hc : Hp} {a : Addr} {vs : List V} {ds : List D}
/-- from a list's reading at every turn -/
theorem ito_list {s : Src} (h : ∀ fr m1 Hc1 S1 H1, Ex m Hc m1 Hc1 → Zh K fr m1 Hc1 S1 H1 → s.okAt S1 = true → ∃ vs, SqL K H1 a vs ∧ Reps K Hc1 m1 s.items vs) : ItO K m Hc (Itl K a) s := by
  intro fr m1 Hc1 S1 H1 i x z g
  obtain ⟨vs, q, rr⟩ := h fr m1 Hc1 S1 H1 x z g
  refine ⟨fun d hd => ?_, fun hl => ⟨vs, q, by rw [rr.length]; exact hl⟩⟩
  obtain ⟨v, hv, rv⟩ := rr.get hd
  refine ⟨⟨vs, v, q, hv⟩, fun y H2 hy => ?_⟩
  obtain ⟨e, hy⟩ := hy
  subst e
  have e : y = v := Option.some.inj ((hy vs q).symm.trans hv)
  subst e
  exact ⟨m1, Hc1, Ex.refl _ _, z, rv⟩
theorem ito_tup (q : SqT K Hc a vs) (rr : Reps K Hc m ds vs) : ItO K m Hc (Itt K a) ⟨ds, none⟩ := by
  intro fr m1 Hc1 S1 H1 i x z g
  have q1 := Same.tupT z.sub (Same.tupT x.sub q)
  have rr1 := Reps.mono x _ _ rr
  refine ⟨fun d hd => ?_, fun hl => ⟨vs, q1, by rw [rr.length]; exact hl⟩⟩
  obtain ⟨v, hv, rv⟩ := rr1.get hd
  refine ⟨⟨vs, v, q1, hv⟩, fun y H2 hy => ?_⟩
  obtain ⟨e, hy⟩ := hy
  subst e
  have e : y = v := Option.some.inj ((hy vs q1).symm.trans hv)
  subst e
  exact ⟨m1, Hc1, Ex.refl _ _, z, rv⟩
/-- at the turns of a walk over a list by enumerate -/
theorem ito_enum {s : Src} {es : List D} (he : s.items = es.zipIdx.map fun p => D.tup [.int (p.2 : Nat), p.1]) (h : ∀ fr m1 Hc1 S1 H1, Ex m Hc m1 Hc1 → Zh K fr m1 Hc1 S1 H1 → s.okAt S1 = true → ∃ vs, SqL K H1 a vs ∧ Reps K Hc1 m1 es vs) : ItO K m Hc (Ite K a) s := by
  intro fr m1 Hc1 S1 H1 i x z g
  obtain ⟨vs, q, rr⟩ := h fr m1 Hc1 S1 H1 x z g
  refine ⟨fun d hd => ?_, fun hl => ⟨vs, q, by rw [rr.length]; rw [he] at hl; simpa using hl⟩⟩
  rw [he, List.getElem?_map, List.getElem?_zipIdx] at hd
  cases h1 : es[i]? with
  | none => rw [h1] at hd; cases hd
  | some d0 =>
    rw [h1] at hd
    simp at hd
    subst hd
    obtain ⟨v, hv, rv⟩ := rr.get h1
    refine ⟨⟨vs, v, q, hv⟩, fun y H2 hy => ?_⟩
    obtain ⟨T, w, rfl, nT, rfl, hy⟩ := hy
    have e : w = v := Option.some.inj ((hy vs q).symm.trans hv)
    subst e
    obtain ⟨z2, x2⟩ := z.new (o := .tup [.int (i : Nat), w]) nT
    exact ⟨m1, _, x2, z2, T, _, rfl, upd_same, _, _, rfl, rfl, _, _, rfl, Rep.mono x2 _ _ rv, rfl⟩
end
/-- the source of a walk -/
def srcOf (x : D) (S : Sto) : Option Src := match x with
  | .tup ds => some ⟨ds, none⟩
  | .rot ds => some ⟨ds, none⟩
  | .rng lo hi => if (lo ≤ 1000000 ∧ -1000000 ≤ lo) ∧ (hi ≤ 1000000 ∧ -1000000 ≤ hi) then some ⟨rangeD lo hi, none⟩ else none
  | .lst ds => some ⟨ds, none⟩
  | .rol ns => some ⟨ns.map D.int, none⟩
  | .ptr n => match S[n]? with
    | some (.lst ds) => some ⟨ds, some n⟩
    | _ => none
  | _ => none
def isTup : D → Bool
  | .tup _ => true
  | .rot _ => true
  | .rng _ _ => true
  | _ => false
theorem src_list {K fr m Hc S H} {d : D} {v : V} {s : Src} (z : Zh K fr m Hc S H) (r : Rep K Hc m d v) (e : srcOf d S = some s) (ht : isTup d = false) : s.okAt S = true ∧ ∃ a, v = .ref a ∧ (∀ fr m1 Hc1 S1 H1, Ex m Hc m1 Hc1 → Zh K fr m1 Hc1 S1 H1 → s.okAt S1 = true → ∃ vs, SqL K H1 a vs ∧ Reps K Hc1 m1 s.items vs) := by
  cases d with
  | lst ds =>
    cases e
    obtain ⟨a, vs, rfl, q, rr⟩ := r
    exact ⟨rfl, a, rfl, fun fr m1 Hc1 S1 H1 x z1 g => ⟨vs, .of (z1.sub _ _ (x.sub _ _ q)), Reps.mono x _ _ rr⟩⟩
  | rol ns =>
    cases e
    obtain ⟨a, rfl, q⟩ := r
    exact ⟨rfl, a, rfl, fun fr m1 Hc1 S1 H1 x z1 g => ⟨_, z1.sub.seq (x.sub.seq q), reps_ints ns⟩⟩
  | ptr n =>
    obtain ⟨a, rfl, hn⟩ := r
    unfold srcOf at e
    cases h : S[n]? with
    | none => simp [h] at e
    | some c =>
      cases c with
      | gone => simp [h] at e
      | dct ks0 ds0 => simp [h] at e
      | lst ds =>
        simp [h] at e
        subst e
        refine ⟨okAt_ptr' h, a, rfl, fun fr m1 Hc1 S1 H1 x z1 g => ?_⟩
        obtain ⟨_, vs, h1, h2⟩ := z1.cel n a _ (x.get hn) (okAt_ptr g)
        exact ⟨vs, .of h1, h2⟩
  | tup ds => cases ht
  | rot ds => cases ht
  | rng a b => cases ht
  | _ => cases e
def zSrc (a : EM D) : EI := fun env S => (a env S).bnd fun x S1 => match srcOf x S1 with
  | some s => .ok s S1
  | none => .stk
def zEnum (a : EM (List D)) : EI := fun env S => (a env S).bnd fun xs S1 => match xs with
  | [x] => match isTup x with
    | true => .stk
    | false => match srcOf x S1 with
      | some ⟨ds, none⟩ => .ok ⟨ds.zipIdx.map fun p => D.tup [.int (p.2 : Nat), p.1], none⟩ S1
      | _ => .stk
  | _ => .stk
section
variable {X : Cx} {W : WX} {tg e : Expr} {te : TE} {fe : EM D} {p pos tpos : Pos} {elts : List Expr} {kk : Nat} {ta : TA} {fa : EM (List D)}
/-- a range object that is walked -/
def iRng (te : TE) : TI := fun σ H R => te σ H fun x H1 => ∃ a lo hi, x = .ref a ∧ H1 a = some (.rng lo hi) ∧ (-(2 ^ 62) ≤ lo ∧ lo < 2 ^ 62 ∧ -(2 ^ 62) ≤ hi ∧ hi < 2 ^ 62) ∧ R (Itr lo (hi - lo).toNat) H1
theorem pi_rngO (he : PE X e te) : PI X tg e (iRng te) := by
  refine ⟨fun ps s σ H R inv wi => ?_⟩
  refine thn (he.run ps s σ H _ inv wi) fun v s1 ⟨x, H1, I1, r1, q1⟩ => ?_
  obtain ⟨a, lo, hi, e, hq, ⟨b1, b2, b3, b4⟩, q⟩ := q1
  subst e
  cases r1
  obtain ⟨t, u, v, ho⟩ := I1.hok a _ hq
  refine wpAny_pyIter_range ho (small_one b1 b2 b3 b4) ?_
  refine ⟨s1.heap.objs.size, [s1.heap.objs.size], _, _, H1, rfl, I1.kept (t' := s1.toks) fun b o e => Heap.get?_push_of_some _ e, turn_range _ lo (hi - lo).toNat, ?_, fun b hb => ?_, q⟩
  · have at0 : lo + ((0 : Nat) : Int) * 1 = lo ∧ (((hi - lo).toNat : Nat) : Int) - ((0 : Nat) : Int) = Builtin.Range.rangeSize lo hi 1 := ⟨by simp, by rw [rangeSize_one]; split <;> omega⟩
    show IsRangeIter _ s1.heap.objs.size (lo + ((0 : Nat) : Int) * 1) ((((hi - lo).toNat : Nat) : Int) - ((0 : Nat) : Int)) 1
    rw [at0.1, at0.2]; exact (Heap.get?_push_size _ rfl)
  · have eb : b = s1.heap.objs.size := by simpa using hb
    exact eb ▸ I1.fpOk (Nat.le_refl _) (I1.hok.fresh (Nat.le_refl _))
theorem PI.alt {X : Cx} {tg e : Expr} {w w' : TI} (h : PI X tg e w) (h' : PI X tg e w') : PI X tg e (fun σ H R => w σ H R ∨ w' σ H R) :=
  ⟨fun pins s σ H R I q => q.elim (h.run pins s σ H R I) (h'.run pins s σ H R I)⟩
theorem Pst.bndE {α β γ δ : Type} {K : PySem.W.Frag} {mg : Mg} {fr : List (Addr × HO)} {rel : Hp → List Addr → α → β → Prop} {rel2 : Hp → List Addr → γ → δ → Prop} {m : List Addr} {Hc : Hp} {w : WS} {Q : β → Hp → Prop} {r : Rs γ} {k : γ → Sto → Rs α} {T : δ → Hp → Prop} (h : Pst K mg fr rel m Hc w Q (r.bnd k))
    (hk : ∀ a S1 b m1 Hc1 H1, r = .ok a S1 → Ex m Hc m1 Hc1 → Zh K fr m1 Hc1 S1 H1 → rel2 Hc1 m1 a b → Pst K mg fr rel m1 Hc1 w Q (k a S1) → T b H1) : Pst K mg fr rel2 m Hc w T r := by
  cases r with
  | ok a S => exact fun b m1 H1 H' x z q => hk a S b m1 H1 H' rfl x z q (Pst.mono x h)
  | exc e S => exact h
  | stk => exact h
theorem zi_src (he : ZE X W e te fe) : ZI X W tg e (fun σ H R => iList X.K te σ H R ∨ (iTup X.K te σ H R ∨ iRng te σ H R)) (zSrc fe) := by
  refine ⟨PI.alt (pi_list he.pe) (PI.alt (pi_tup he.pe) (pi_rngO he.pe)), ?_⟩
  intro fr m Hc env S σ H R z zz q
  by_cases hk : ∃ d S1, fe env S = .ok d S1 ∧ isTup d = true
  · obtain ⟨d, S0, h0, ht⟩ := hk
    cases d <;> first | (cases ht; done) | skip
    · rename_i ds
      refine .inr (.inl (he.sd fr m Hc env S σ H _ z zz (q.bndE fun x S1 v m1 Hc1 H1 e1 x1 z1 r1 q1 => ?_)))
      rw [h0] at e1
      cases e1
      obtain ⟨a, vs, rfl, hq, rr⟩ := r1
      exact ⟨a, rfl, ⟨vs, .of (z1.sub _ _ hq)⟩, q1.use z1 (ito_tup (.of hq) rr)⟩
    · rename_i lo hi
      refine .inr (.inr (he.sd fr m Hc env S σ H _ z zz (q.bndE fun x S1 v m1 Hc1 H1 e1 x1 z1 r1 q1 => ?_)))
      rw [h0] at e1
      cases e1
      obtain ⟨a, rfl, hq⟩ := r1
      simp only [srcOf] at q1
      by_cases hb : (lo ≤ 1000000 ∧ -1000000 ≤ lo) ∧ (hi ≤ 1000000 ∧ -1000000 ≤ hi)
      · rw [if_pos hb] at q1
        exact ⟨a, lo, hi, rfl, z1.sub _ _ hq, ⟨by omega, by omega, by omega, by omega⟩, q1.use z1 (ito_range lo (hi - lo).toNat)⟩
      · rw [if_neg hb] at q1; exact q1.elim
    · rename_i ds
      refine .inr (.inl (he.sd fr m Hc env S σ H _ z zz (q.bndE fun x S1 v m1 Hc1 H1 e1 x1 z1 r1 q1 => ?_)))
      rw [h0] at e1
      cases e1
      obtain ⟨a, vs, rfl, hq, rr⟩ := r1
      exact ⟨a, rfl, ⟨vs, Same.tupT z1.sub hq⟩, q1.use z1 (ito_tup hq rr)⟩
  · refine .inl (he.sd fr m Hc env S σ H _ z zz (q.bndE fun x S1 v m1 Hc1 H1 e1 x1 z1 r1 q1 => ?_))
    have ht : isTup x = false := by
      cases h : isTup x with
      | false => rfl
      | true => exact (hk ⟨_, _, e1, h⟩).elim
    cases h : srcOf x S1 with
    | none => simp [h] at q1; exact q1.elim
    | some s =>
      simp only [h] at q1
      obtain ⟨ok, a, rfl, hh⟩ := src_list z1 r1 h ht
      obtain ⟨vs, q2, _⟩ := hh fr m1 Hc1 S1 H1 (Ex.refl _ _) z1 ok
      exact ⟨a, rfl, ⟨vs, q2⟩, q1.use z1 (ito_list hh)⟩
theorem zi_enum (hg : Gl X "enumerate") (hm : X.mg "enumerate" = none) (ha : ZA X W [e] ta fa) (hs : starEach [e] X.env = [(false, eval e X.env)] := by rfl) : ZI X W (.Tuple elts kk tpos) (.Call (.Name "enumerate" p) [e] [] pos) (iEnum X.K ta) (zEnum fa) := by
  refine ⟨pi_enum hg hm ha.pa hs, ?_⟩
  intro fr m Hc env S σ H R z zz q
  refine ha.sd fr m Hc env S σ H _ z zz (q.bnd fun xs S1 vs m1 Hc1 H1 x1 z1 r1 q1 => ?_)
  split at q1
  · rename_i x
    obtain ⟨v, rfl, rv⟩ := r1.one_of
    cases ht : isTup x with
    | true => rw [ht] at q1; exact q1.elim
    | false =>
      rw [ht] at q1
      simp only [] at q1
      cases h : srcOf x S1 with
      | none => rw [h] at q1; exact q1.elim
      | some s =>
        obtain ⟨ds, gd⟩ := s
        cases gd with
        | some n => rw [h] at q1; exact q1.elim
        | none =>
          rw [h] at q1
          obtain ⟨_, a, rfl, hh⟩ := src_list z1 rv h ht
          obtain ⟨vs, q2, _⟩ := hh fr m1 Hc1 S1 H1 (Ex.refl _ _) z1 rfl
          exact ⟨a, vs, rfl, q2, q1.use z1 (ito_enum rfl fun fr m2 Hc2 S2 H2 x2 z2 g => hh fr m2 Hc2 S2 H2 x2 z2 rfl)⟩
  · exact q1.elim
end

/-! ### for -/
/-- one turn's end -/
def Ss.turn (r : Ss) (k : SM) : Ss := match r with
  | .mk (.next env) S => k env S
  | .mk (.cnt env) S => k env S
  | .mk (.brk env) S => .mk (.next env) S
  | r => r
@[simp] theorem Ss.turn_next (env : En) (S : Sto) (k : SM) : (Ss.mk (.next env) S).turn k = k env S := rfl
@[simp] theorem Ss.turn_cnt (env : En) (S : Sto) (k : SM) : (Ss.mk (.cnt env) S).turn k = k env S := rfl
@[simp] theorem Ss.turn_brk (env : En) (S : Sto) (k : SM) : (Ss.mk (.brk env) S).turn k = .mk (.next env) S := rfl
@[simp] theorem Ss.turn_ret (d : D) (S : Sto) (k : SM) : (Ss.mk (.ret d) S).turn k = .mk (.ret d) S := rfl
@[simp] theorem Ss.turn_exc (e : XV) (d : En) (S : Sto) (k : SM) : (Ss.mk (.exc e d) S).turn k = .mk (.exc e d) S := rfl
@[simp] theorem Ss.turn_stk (k : SM) : Ss.stk.turn k = .stk := rfl
noncomputable def forL (s : Src) (g : GM) (b : SM) : List D → SM
  | [] => fun env S => if s.okAt S = true then .mk (.next env) S else .stk
  | d :: ds => fun env S => if s.okAt S = true then (match g d env with
      | some env1 => (b env1 S).turn (forL s g b ds)
      | none => .stk) else .stk
noncomputable def zFor (i : EI) (g : GM) (b : SM) : SM := fun env S => (i env S).st env fun s S1 => forL s g b s.items env S1
section
variable {X : Cx} {W : WX} {pos : Pos} {tg iter : Expr} {body : List Stmt} {wi : TI} {fi : EI} {t : TG} {sl : List Nat} {g : GM} {tb : TS} {fb : SM}
theorem zs_for (hp : PassesOwn (model X.prog X.w) X.A X.env X.xe) (hc : X.calm = true) (hi : ZI X W tg iter wi fi) (hg : ZG X tg t sl g) (hb : ZSs X W body tb fb) (hs : ∀ x, foldedSetIterable iter X.env x = pure x := by intro _; rfl) :
    ZS X W (.For tg iter body [] pos) (tFor wi t tb) (zFor fi g fb) := by
  refine ⟨ps_for hp hc hi.pi hg.pg hb.ps hs, ?_⟩
  intro fr m Hc env S σ H E z zz p
  refine hi.sd fr m Hc env S σ H _ z zz (p.bnd zz fun s S1 J m1 Hc1 H1 x1 z1 r1 p1 => ?_)
  refine ⟨fun i k σ' H' => k = s.items.length - i ∧ ∃ m2 Hc2 env2 S2, Ex m1 Hc1 m2 Hc2 ∧ Zh X.K fr m2 Hc2 S2 H' ∧ Ze X.K Hc2 m2 env2 σ' ∧ PstS X.K X.mg fr m2 Hc2 W E (forL s g fb (s.items.drop i) env2 S2),
    ⟨s.items.length, by simp, m1, Hc1, env, S1, Ex.refl _ _, z1, Ze.mono x1 zz, by simpa using p1⟩, ?_⟩
  rintro i k σ' H' ⟨rfl, m2, Hc2, env2, S2, x2, z2, zz2, p2⟩
  by_cases hlt : i < s.items.length
  · right
    rw [List.drop_eq_getElem_cons hlt] at p2
    unfold forL at p2
    by_cases hok : s.okAt S2 = true
    · rw [if_pos hok] at p2
      obtain ⟨hgo, hyl⟩ := (r1 fr m2 Hc2 S2 H' i x2 z2 hok).1 _ (List.getElem?_eq_getElem hlt)
      refine ⟨hgo, fun σ3 H3 => ∃ m3 Hc3 env3 S3, Ex m1 Hc1 m3 Hc3 ∧ Zh X.K fr m3 Hc3 S3 H3 ∧ Ze X.K Hc3 m3 env3 σ3 ∧ PstS X.K X.mg fr m3 Hc3 W E (forL s g fb (s.items.drop (i + 1)) env3 S3), fun σ3 H3 hN => ⟨s.items.length - (i + 1), by omega, rfl, hN⟩, fun x H3 hy => ?_⟩
      obtain ⟨m3, Hc3, x3, z3, r3⟩ := hyl x H3 hy
      cases hgd : g s.items[i] env2 with
      | none => rw [hgd] at p2; exact p2.elim
      | some env3 =>
        rw [hgd] at p2
        replace p2 : PstS X.K X.mg fr m2 Hc2 W E ((fb env3 S2).turn (forL s g fb (s.items.drop (i + 1)))) := p2
        refine hg.sd fr m3 Hc3 S2 H3 x _ env2 env3 σ' _ z3 r3 (Ze.mono x3 zz2) hgd fun σ3 zz3 _ => ?_
        refine hb.sd fr m3 Hc3 env3 S2 σ3 H3 _ z3 zz3 ?_
        have p3 := PstS.mono x3 p2
        cases hbr : fb env3 S2 with
        | stk => rw [hbr] at p3; exact p3
        | mk fl S4 =>
          rw [hbr] at p3
          cases fl with
          | next env4 => exact fun σ4 m4 Hc4 H4 x4 z4 zz4 => ⟨m4, Hc4, env4, S4, x2.trans (x3.trans x4), z4, zz4, PstS.mono x4 p3⟩
          | cnt env4 => exact fun σ4 m4 Hc4 H4 x4 z4 zz4 => ⟨m4, Hc4, env4, S4, x2.trans (x3.trans x4), z4, zz4, PstS.mono x4 p3⟩
          | brk env4 => exact p3
          | ret d => exact p3
          | exc e d => exact p3
    · rw [if_neg hok] at p2; exact p2.elim
  · left
    rw [List.drop_of_length_le (Nat.le_of_not_lt hlt)] at p2
    unfold forL at p2
    by_cases hok : s.okAt S2 = true
    · rw [if_pos hok] at p2
      exact ⟨(r1 fr m2 Hc2 S2 H' i x2 z2 hok).2 (Nat.le_of_not_lt hlt), p2 σ' m2 Hc2 H' (Ex.refl _ _) z2 zz2⟩
    · rw [if_neg hok] at p2; exact p2.elim

/-! ### while -/
def whileN (c : EM Bool) (b : SM) : Nat → SM
  | 0 => fun _ _ => .stk
  | n + 1 => fun env S => (c env S).st env fun k S1 => if k = true then (b env S1).turn (whileN c b n) else .mk (.next env) S1
/-- N: turns at most -/
def zWhile (N : En → Sto → Nat) (c : EM Bool) (b : SM) : SM := fun env S => whileN c b (N env S) env S
theorem zs_while {c : Expr} {tc : TT} {gc : EM Bool} {N : En → Sto → Nat} (hp : PassesOwn (model X.prog X.w) X.A X.env X.xe) (hc : ZT X W c tc gc) (hb : ZSs X W body tb fb) : ZS X W (.While c body [] pos) (tWhile tc tb) (zWhile N gc fb) := by
  refine ⟨ps_while hp hc.pt hb.ps, ?_⟩
  intro fr m Hc env S σ H E z zz p
  refine ⟨fun n σ' H' => ∃ m2 Hc2 env2 S2, Zh X.K fr m2 Hc2 S2 H' ∧ Ze X.K Hc2 m2 env2 σ' ∧ PstS X.K X.mg fr m2 Hc2 W E (whileN gc fb n env2 S2), ⟨N env S, m, Hc, env, S, z, zz, p⟩, ?_⟩
  rintro n σ' H' ⟨m2, Hc2, env2, S2, z2, zz2, p2⟩
  cases n with
  | zero => exact p2.elim
  | succ n =>
    unfold whileN at p2
    refine hc.sd fr m2 Hc2 env2 S2 σ' H' _ z2 zz2 (p2.bnd zz2 fun k S3 k' m3 Hc3 H3 x3 z3 r3 p3 => ?_)
    cases r3
    have zz3 := Ze.mono x3 zz2
    cases k with
    | false =>
      rw [if_neg Bool.false_ne_true] at p3 ⊢
      exact p3 σ' m3 Hc3 H3 (Ex.refl _ _) z3 zz3
    | true =>
      rw [if_pos rfl] at p3 ⊢
      refine ⟨fun σ4 H4 => ∃ m2 Hc2 env2 S2, Zh X.K fr m2 Hc2 S2 H4 ∧ Ze X.K Hc2 m2 env2 σ4 ∧ PstS X.K X.mg fr m2 Hc2 W E (whileN gc fb n env2 S2), fun σ4 H4 hN => ⟨n, Nat.lt_succ_self n, hN⟩, ?_⟩
      refine hb.sd fr m3 Hc3 env2 S3 σ' H3 _ z3 zz3 ?_
      cases hbr : fb env2 S3 with
      | stk => rw [hbr] at p3; exact p3
      | mk fl S4 =>
        rw [hbr] at p3
        cases fl with
        | next env4 => exact fun σ4 m4 Hc4 H4 x4 z4 zz4 => ⟨m4, Hc4, env4, S4, z4, zz4, PstS.mono x4 p3⟩
        | cnt env4 => exact fun σ4 m4 Hc4 H4 x4 z4 zz4 => ⟨m4, Hc4, env4, S4, z4, zz4, PstS.mono x4 p3⟩
        | brk env4 => exact p3
        | ret d => exact p3
        | exc e d => exact p3
end
end Z

namespace Z
open PySem L2
open PySem.Spec PyProof.Rows
variable [Tabs]

abbrev W0 : WX := fun _ _ _ _ => False
def Rs.nox {α : Type} : Rs α → Rs α
  | .exc _ _ => .stk
  | r => r
@[simp] theorem Rs.nox_ok {α : Type} (a : α) (S : Sto) : (Rs.ok a S).nox = .ok a S := rfl
@[simp] theorem Rs.nox_stk {α : Type} : (Rs.stk : Rs α).nox = .stk := rfl
def wipeE (env : En) : List Nat → En
  | [] => env
  | v :: vs => (wipeE env vs).set v none
theorem Ze.wipe {K Hc m env σ} (z : Ze K Hc m env σ) : ∀ vs : List Nat, Ze K Hc m (wipeE env vs) (L2.wipe σ vs)
  | [] => z
  | v :: vs => (Ze.wipe z vs).unset v
theorem wipe_wipe {σ : L2.St} : ∀ {vs ws : List Nat}, (∀ i ∈ ws, i ∈ vs) → L2.wipe (L2.wipe σ ws) vs = L2.wipe σ vs
  | vs, [], _ => rfl
  | vs, w :: ws, h => by
    show L2.wipe ((L2.wipe σ ws).set w none) vs = _
    rw [wipe_set (h w List.mem_cons_self)]
    exact wipe_wipe fun i hi => h i (List.mem_cons_of_mem _ hi)
theorem Pst.bnd0 {α β γ δ : Type} {K : PySem.W.Frag} {mg : Mg} {fr fr' : List (Addr × HO)} {rel : Hp → List Addr → α → β → Prop} {rel2 : Hp → List Addr → γ → δ → Prop} {m : List Addr} {Hc : Hp} {w : WS} {Q : β → Hp → Prop} {r : Rs γ} {k : γ → Sto → Rs α} {T : δ → Hp → Prop} (h : Pst K mg fr rel m Hc w Q (r.nox.bnd k))
    (hk : ∀ a S1 b m1 Hc1 H1, Ex m Hc m1 Hc1 → Zh K fr' m1 Hc1 S1 H1 → rel2 Hc1 m1 a b → Pst K mg fr rel m1 Hc1 w Q (k a S1) → T b H1) : Pst K mg fr' rel2 m Hc (fun c o H => False) T r := by
  cases r with
  | ok a S => exact fun b m1 H1 H' x z q => hk a S b m1 H1 H' x z q (Pst.mono x h)
  | exc e S => exact h.elim
  | stk => exact h

/-! ### comprehensions -/
/-- the items that a clause adds to acc -/
noncomputable def lcA (s : Src) (g : GM) (ft : EM Bool) (fe : EM D) (env : En) : List D → List D → Sto → Rs (List D)
  | [], acc, S => if s.okAt S = true then .ok acc S else .stk
  | d :: ds, acc, S => if s.okAt S = true then (match g d env with
      | some env1 => (ft env1 S).nox.bnd fun b S1 => if b = true then (fe env1 S1).nox.bnd fun y S2 => if acc.length < bigN then lcA s g ft fe env ds (acc ++ [y]) S2 else .stk else lcA s g ft fe env ds acc S1
      | none => .stk) else .stk
noncomputable def zLcL (vs : List Nat) (fi : EI) (g : GM) (ft : EM Bool) (fe : EM D) : EM (List D) := fun env S => (fi env S).bnd fun s S1 => lcA s g ft fe (wipeE env vs) s.items [] S1
noncomputable def zLc (vs : List Nat) (fi : EI) (g : GM) (ft : EM Bool) (fe : EM D) : EM D := fun env S => (zLcL vs fi g ft fe env S).bnd fun acc S2 => .ok (.lst acc) S2
noncomputable def zLcC (vs : List Nat) (fi : EI) (g : GM) (ft : EM Bool) (fe : EM D) : EM D := fun env S => (zLcL vs fi g ft fe env S).bnd fun acc S2 => .ok (.ptr S2.length) (S2 ++ [.lst acc])
/-- the same loop, by its reading -/
def LcT (J : It) (g : TG) (tt : TT) (te : TE) (vs : List Nat) (σ : L2.St) (Dn : Addr) (H1 : Hp) (Fin : Hp → Prop) : Prop :=
  ∃ W : Nat → Nat → Hp → Prop, (∃ m, W 0 m H1) ∧ ∀ i m H, W i m H →
  (J.stop i H ∧ Fin H) ∨ (J.go i H ∧ ∃ Nx : Hp → Prop, (∀ H', Nx H' → ∃ m', m' < m ∧ W (i + 1) m' H') ∧ ∀ x H', J.yld i H x H' → g x (L2.wipe σ vs) H' fun σ2 H2 => L2.wipe σ2 vs = L2.wipe σ vs ∧ tt σ2 H2 fun b H3 =>
    if b = true then te σ2 H3 fun y H4 => ∃ acc, H4 Dn = some (.lst acc) ∧ acc.length < sizeLine ∧ Nx (upd H4 Dn (.lst (acc ++ [y]))) else Nx H3)
section
variable {K : PySem.W.Frag} {mg : Mg} {t : TG} {sl : List Nat} {g : GM} {tt : TT} {ft : EM Bool} {te : TE} {fe : EM D}
theorem lcA_ok {α β : Type} {rel : Hp → List Addr → α → β → Prop} {w : WS} {Q : β → Hp → Prop} {s : Src} {J : It} {m1 : List Addr} {Hc1 H1 : Hp} {S1 : Sto} {fr : List (Addr × HO)} {Dn : Addr} {acc0 : List D} {accv0 : List V} {env : En} {σ : L2.St} {vs : List Nat} {k : List D → Sto → Rs α} {Fin : Hp → Prop}
    (hg : SG K t sl g) (hsl : ∀ i ∈ sl, i ∈ vs) (ht : ST K mg W0 tt ft) (he : SE K mg W0 te fe) (r1 : ItO K m1 Hc1 J s) (z1 : Zh K ((Dn, .lst accv0) :: fr) m1 Hc1 S1 H1) (rr : Reps K Hc1 m1 acc0 accv0) (zz : Ze K Hc1 m1 env (L2.wipe σ vs))
    (p : Pst K mg fr rel m1 Hc1 w Q ((lcA s g ft fe env s.items acc0 S1).bnd k))
    (fin : ∀ H' m2 Hc2 S2 acc accv, Ex m1 Hc1 m2 Hc2 → Zh K ((Dn, .lst accv) :: fr) m2 Hc2 S2 H' → Reps K Hc2 m2 acc accv → Pst K mg fr rel m2 Hc2 w Q (k acc S2) → Fin H') : LcT J t tt te vs σ Dn H1 Fin := by
  refine ⟨fun i n H' => n = s.items.length - i ∧ ∃ m2 Hc2 S2 acc accv, Ex m1 Hc1 m2 Hc2 ∧ Zh K ((Dn, .lst accv) :: fr) m2 Hc2 S2 H' ∧ Reps K Hc2 m2 acc accv ∧ Pst K mg fr rel m2 Hc2 w Q ((lcA s g ft fe env (s.items.drop i) acc S2).bnd k),
    ⟨s.items.length, by simp, m1, Hc1, S1, acc0, accv0, Ex.refl _ _, z1, rr, by simpa using p⟩, ?_⟩
  rintro i n H' ⟨rfl, m2, Hc2, S2, acc, accv, x2, z2, rr2, p2⟩
  by_cases hlt : i < s.items.length
  · right
    rw [List.drop_eq_getElem_cons hlt] at p2
    unfold lcA at p2
    by_cases hok : s.okAt S2 = true
    · rw [if_pos hok] at p2
      obtain ⟨hgo, hyl⟩ := (r1 _ m2 Hc2 S2 H' i x2 z2 hok).1 _ (List.getElem?_eq_getElem hlt)
      refine ⟨hgo, fun H3 => ∃ m3 Hc3 S3 acc' accv', Ex m1 Hc1 m3 Hc3 ∧ Zh K ((Dn, .lst accv') :: fr) m3 Hc3 S3 H3 ∧ Reps K Hc3 m3 acc' accv' ∧ Pst K mg fr rel m3 Hc3 w Q ((lcA s g ft fe env (s.items.drop (i + 1)) acc' S3).bnd k), fun H3 hN => ⟨s.items.length - (i + 1), by omega, rfl, hN⟩, fun x H3 hy => ?_⟩
      obtain ⟨m3, Hc3, x3, z3, r3⟩ := hyl x H3 hy
      cases hgd : g s.items[i] env with
      | none => rw [hgd] at p2; exact p2.elim
      | some env3 =>
        rw [hgd] at p2
        replace p2 := Pst.mono x3 p2
        refine hg _ m3 Hc3 S2 H3 x _ env env3 _ _ z3 r3 (Ze.mono (x2.trans x3) zz) hgd fun σ3 zz3 hw => ⟨(hw vs hsl).trans (wipe_wipe fun _ h => h), ?_⟩
        have p3 : Pst K mg fr rel m3 Hc3 w Q ((ft env3 S2).nox.bnd fun b S1 => (if b = true then (fe env3 S1).nox.bnd fun y S2 => if acc.length < bigN then lcA s g ft fe env (s.items.drop (i + 1)) (acc ++ [y]) S2 else .stk else lcA s g ft fe env (s.items.drop (i + 1)) acc S1).bnd k) := by
          have e : ∀ (r : Rs Bool) (k1 : Bool → Sto → Rs (List D)), (r.bnd k1).bnd k = r.bnd fun b S => (k1 b S).bnd k := fun r k1 => by cases r <;> rfl
          rw [← e]; exact p2
        refine ht _ m3 Hc3 env3 S2 σ3 H3 _ z3 zz3 (p3.bnd0 fun b S4 b' m4 Hc4 H4 x4 z4 r4 p4 => ?_)
        cases r4
        have x24 := x2.trans (x3.trans x4)
        cases b with
        | false =>
          rw [if_neg Bool.false_ne_true] at p4 ⊢
          exact ⟨m4, Hc4, S4, acc, accv, x24, z4, Reps.mono (x3.trans x4) _ _ rr2, p4⟩
        | true =>
          rw [if_pos rfl] at p4 ⊢
          have p5 : Pst K mg fr rel m4 Hc4 w Q ((fe env3 S4).nox.bnd fun y S2 => (if acc.length < bigN then lcA s g ft fe env (s.items.drop (i + 1)) (acc ++ [y]) S2 else .stk).bnd k) := by
            have e : ∀ (r : Rs D) (k1 : D → Sto → Rs (List D)), (r.bnd k1).bnd k = r.bnd fun b S => (k1 b S).bnd k := fun r k1 => by cases r <;> rfl
            rw [← e]; exact p4
          refine he _ m4 Hc4 env3 S4 σ3 H4 _ z4 (Ze.mono x4 zz3) (p5.bnd0 fun y S5 yv m5 Hc5 H5 x5 z5 r5 p6 => ?_)
          have rr5 := Reps.mono (x3.trans (x4.trans x5)) _ _ rr2
          by_cases hl : acc.length < bigN
          · rw [if_pos hl] at p6
            refine ⟨accv, (z5.frm _ List.mem_cons_self).1, by rw [rr5.length]; exact Nat.lt_of_lt_of_le hl (by decide), ?_⟩
            exact ⟨m5, Hc5, S5, acc ++ [y], accv ++ [yv], x24.trans x5, z5.reframe, rr5.append (Reps.one r5), p6⟩
          · rw [if_neg hl] at p6; exact p6.elim
    · rw [if_neg hok] at p2; exact p2.elim
  · left
    rw [List.drop_of_length_le (Nat.le_of_not_lt hlt)] at p2
    unfold lcA at p2
    by_cases hok : s.okAt S2 = true
    · rw [if_pos hok] at p2
      exact ⟨(r1 _ m2 Hc2 S2 H' i x2 z2 hok).2 (Nat.le_of_not_lt hlt), fin H' m2 Hc2 S2 acc accv x2 z2 rr2 p2⟩
    · rw [if_neg hok] at p2; exact p2.elim
/-- the new list, frozen or mutable -/
inductive Mk where
  | frz | cel
def Mk.res : Mk → List D → Sto → Rs D
  | .frz, acc, S => .ok (.lst acc) S
  | .cel, acc, S => .ok (.ptr S.length) (S ++ [.lst acc])
theorem Mk.done {fr m Hc S H w Q} {Dn : Addr} {acc : List D} {accv : List V} (k : Mk) (z : Zh K ((Dn, .lst accv) :: fr) m Hc S H) (rr : Reps K Hc m acc accv) (p : Pst K mg fr (fun Hc m d v => Rep K Hc m d v) m Hc w Q (k.res acc S)) : Q (.ref Dn) H := by
  cases k with
  | frz =>
    obtain ⟨z', x⟩ := z.unframe
    exact p _ _ _ _ x z' ⟨Dn, accv, rfl, upd_same, Reps.mono x _ _ rr⟩
  | cel =>
    obtain ⟨z', x⟩ := z.unframeC rr
    exact p _ _ _ _ x z' ⟨Dn, rfl, by rw [← z.len, List.getElem?_append_right (Nat.le_refl _)]; simp⟩
noncomputable def zLcK (k : Mk) (vs : List Nat) (fi : EI) (g : GM) (ft : EM Bool) (fe : EM D) : EM D := fun env S => (fi env S).bnd fun s S1 => (lcA s g ft fe (wipeE env vs) s.items [] S1).bnd k.res
theorem lc_sd {X : Cx} {W : WX} {tg iter : Expr} {wi : TI} {fi : EI} {t : TG} {sl : List Nat} {g : GM} {vs : List Nat} (k : Mk) (hi : ZI X W tg iter wi fi) (hg : SG X.K t sl g) (hsl : ∀ i ∈ sl, i ∈ vs) (ht : ST X.K X.mg W0 tt ft) (he : SE X.K X.mg W0 te fe) : SE X.K X.mg W (tLc wi t tt te vs) (zLcK k vs fi g ft fe) := by
  intro fr m Hc env S σ H Q z zz p
  refine hi.sd fr m Hc env S σ H _ z zz (p.bnd fun s S1 J m1 Hc1 H1 x1 z1 r1 p1 => ?_)
  intro Dn hD
  have zz1 := Ze.mono x1 zz
  exact lcA_ok (acc0 := []) (accv0 := []) hg hsl ht he r1 (z1.frame hD) rfl (zz1.wipe vs) p1 fun H' m2 Hc2 S2 acc accv x2 z2 rr2 p2 => k.done z2 rr2 p2
/-- two clauses -/
noncomputable def lcB (s : Src) (g : GM) (ft : EM Bool) (fi1 : EI) (g1 : GM) (ft1 : EM Bool) (fe : EM D) (vs1 : List Nat) (env : En) : List D → List D → Sto → Rs (List D)
  | [], acc, S => if s.okAt S = true then .ok acc S else .stk
  | d :: ds, acc, S => if s.okAt S = true then (match g d env with
      | some env1 => (ft env1 S).nox.bnd fun b S1 => if b = true then (fi1 env1 S1).nox.bnd fun s1 S2 => (lcA s1 g1 ft1 fe (wipeE env1 vs1) s1.items acc S2).bnd fun acc2 S3 => lcB s g ft fi1 g1 ft1 fe vs1 env ds acc2 S3 else lcB s g ft fi1 g1 ft1 fe vs1 env ds acc S1
      | none => .stk) else .stk
noncomputable def zLc2K (k : Mk) (vs vs1 : List Nat) (fi : EI) (g : GM) (ft : EM Bool) (fi1 : EI) (g1 : GM) (ft1 : EM Bool) (fe : EM D) : EM D := fun env S => (fi env S).bnd fun s S1 => (lcB s g ft fi1 g1 ft1 fe vs1 (wipeE env vs) s.items [] S1).bnd k.res
theorem bnd_assoc {α β γ : Type} (r : Rs α) (k1 : α → Sto → Rs β) (k : β → Sto → Rs γ) : (r.bnd k1).bnd k = r.bnd fun b S => (k1 b S).bnd k := by cases r <;> rfl
def SI0 (K : PySem.W.Frag) (mg : Mg) (wi : TI) (f : EI) : Prop :=
  ∀ fr m Hc env S σ H R, Zh K fr m Hc S H → Ze K Hc m env σ → Pst K mg fr (rI K) m Hc (fun c o H => False) R (f env S) → wi σ H R
theorem lc2_sd {X : Cx} {W : WX} {tg iter : Expr} {wi wi1 : TI} {fi fi1 : EI} {t t1 : TG} {sl sl1 : List Nat} {g g1 : GM} {tt1 : TT} {ft1 : EM Bool} {vs vs1 : List Nat} (k : Mk) (hi : ZI X W tg iter wi fi) (hg : SG X.K t sl g) (hsl : ∀ i ∈ sl, i ∈ vs) (ht : ST X.K X.mg W0 tt ft)
    (hi1 : SI0 X.K X.mg wi1 fi1) (hg1 : SG X.K t1 sl1 g1) (hsl1 : ∀ i ∈ sl1, i ∈ vs1) (ht1 : ST X.K X.mg W0 tt1 ft1) (he : SE X.K X.mg W0 te fe) : SE X.K X.mg W (tLc2 wi t tt wi1 t1 tt1 te vs vs1) (zLc2K k vs vs1 fi g ft fi1 g1 ft1 fe) := by
  intro fr m Hc env S σ H Q z zz p
  refine hi.sd fr m Hc env S σ H _ z zz (p.bnd fun s S1 J m1 Hc1 H1 x1 z1 r1 p1 => ?_)
  intro Dn hD
  have zz1 := (Ze.mono x1 zz).wipe vs
  refine ⟨fun i n H' => n = s.items.length - i ∧ ∃ m2 Hc2 S2 acc accv, Ex m1 Hc1 m2 Hc2 ∧ Zh X.K ((Dn, .lst accv) :: fr) m2 Hc2 S2 H' ∧ Reps X.K Hc2 m2 acc accv ∧ Pst X.K X.mg fr (fun Hc m d v => Rep X.K Hc m d v) m2 Hc2 (fun c o H => W c o σ H) Q ((lcB s g ft fi1 g1 ft1 fe vs1 (wipeE env vs) (s.items.drop i) acc S2).bnd k.res),
    ⟨s.items.length, by simp, m1, Hc1, S1, [], [], Ex.refl _ _, z1.frame hD, rfl, by simpa using p1⟩, ?_⟩
  rintro i n H' ⟨rfl, m2, Hc2, S2, acc, accv, x2, z2, rr2, p2⟩
  by_cases hlt : i < s.items.length
  · right
    rw [List.drop_eq_getElem_cons hlt] at p2
    unfold lcB at p2
    by_cases hok : s.okAt S2 = true
    · rw [if_pos hok] at p2
      obtain ⟨hgo, hyl⟩ := (r1 _ m2 Hc2 S2 H' i x2 z2 hok).1 _ (List.getElem?_eq_getElem hlt)
      refine ⟨hgo, fun H3 => ∃ m3 Hc3 S3 acc' accv', Ex m1 Hc1 m3 Hc3 ∧ Zh X.K ((Dn, .lst accv') :: fr) m3 Hc3 S3 H3 ∧ Reps X.K Hc3 m3 acc' accv' ∧ Pst X.K X.mg fr (fun Hc m d v => Rep X.K Hc m d v) m3 Hc3 (fun c o H => W c o σ H) Q ((lcB s g ft fi1 g1 ft1 fe vs1 (wipeE env vs) (s.items.drop (i + 1)) acc' S3).bnd k.res), fun H3 hN => ⟨s.items.length - (i + 1), by omega, rfl, hN⟩, fun x H3 hy => ?_⟩
      obtain ⟨m3, Hc3, x3, z3, r3⟩ := hyl x H3 hy
      cases hgd : g s.items[i] (wipeE env vs) with
      | none => rw [hgd] at p2; exact p2.elim
      | some env3 =>
        rw [hgd] at p2
        replace p2 := Pst.mono x3 p2
        refine hg _ m3 Hc3 S2 H3 x _ _ env3 _ _ z3 r3 (Ze.mono (x2.trans x3) zz1) hgd fun σ3 zz3 hw => ⟨(hw vs hsl).trans (wipe_wipe fun _ h => h), ?_⟩
        replace p2 := (bnd_assoc _ _ _) ▸ p2
        refine ht _ m3 Hc3 env3 S2 σ3 H3 _ z3 zz3 (p2.bnd0 fun b S4 b' m4 Hc4 H4 x4 z4 r4 p4 => ?_)
        cases r4
        have x24 := x2.trans (x3.trans x4)
        cases b with
        | false =>
          rw [if_neg Bool.false_ne_true] at p4 ⊢
          exact ⟨m4, Hc4, S4, acc, accv, x24, z4, Reps.mono (x3.trans x4) _ _ rr2, p4⟩
        | true =>
          rw [if_pos rfl] at p4 ⊢
          rw [bnd_assoc] at p4
          have zz4 := Ze.mono x4 zz3
          refine hi1 _ m4 Hc4 env3 S4 σ3 H4 _ z4 zz4 (p4.bnd0 fun s1 S5 J1 m5 Hc5 H5 x5 z5 r5 p5 => ?_)
          have rr5 := Reps.mono (x3.trans (x4.trans x5)) _ _ rr2
          rw [bnd_assoc] at p5
          refine lcA_ok hg1 hsl1 ht1 he r5 z5 rr5 ((Ze.mono x5 zz4).wipe vs1) p5 fun H6 m6 Hc6 S6 acc6 accv6 x6 z6 rr6 p6 => ?_
          exact ⟨m6, Hc6, S6, acc6, accv6, x24.trans (x5.trans x6), z6, rr6, p6⟩
    · rw [if_neg hok] at p2; exact p2.elim
  · left
    rw [List.drop_of_length_le (Nat.le_of_not_lt hlt)] at p2
    unfold lcB at p2
    by_cases hok : s.okAt S2 = true
    · rw [if_pos hok] at p2
      exact ⟨(r1 _ m2 Hc2 S2 H' i x2 z2 hok).2 (Nat.le_of_not_lt hlt), k.done z2 rr2 p2⟩
    · rw [if_neg hok] at p2; exact p2.elim
end
/-- a clause's tests -/
structure ZTs (X : Cx) (W : WX) (ifs : List Expr) (t : TT) (f : EM Bool) : Prop where
  pt : PTs X ifs t
  sd : ST X.K X.mg W t f
def zYes : EM Bool := fun _ S => .ok true S
theorem zts_nil {X W} : ZTs X W [] tYes zYes := ⟨pts_nil, fun fr m Hc env S σ H Q z zz p => p.use z rfl⟩
theorem zts_one {X W} {c : Expr} {t : TT} {f : EM Bool} (h : ZT X W c t f) : ZTs X W [c] t f := ⟨pts_one h.pt, h.sd⟩
section
variable {X : Cx} {W : WX} {elt tg iter tg1 iter1 : Expr} {ifs ifs1 : List Expr} {scope : Scope} {own : List (Str × Nat)} {pos : Pos} {wi wi1 : TI} {fi fi1 : EI} {t t1 : TG} {sl sl1 : List Nat} {g g1 : GM} {tt tt1 : TT} {ft ft1 : EM Bool} {te : TE} {fe : EM D}
theorem ze_lc {k : Mk} {vs : List Nat} (hvs : own.map (·.2) = vs) (hc : X.calm = true) (hN : X.N.Nodup) (hi : ZI X W tg iter wi fi) (ok : BlkOk X.N X.env.scope scope own)
    (hg : ∀ (s : Shared) (H : Hp) (C : Addr) (cl : List (Str × Addr)) (fp : List Addr), ZG (X.blk s H scope (compEnvC scope cl C X.env) fp) tg t sl g) (ht : ∀ (s : Shared) (H : Hp) (C : Addr) (cl : List (Str × Addr)) (fp : List Addr), ZTs (X.blk s H scope (compEnvC scope cl C X.env) fp) W0 ifs tt ft)
    (he : ∀ (s : Shared) (H : Hp) (C : Addr) (cl : List (Str × Addr)) (fp : List Addr), ZE (X.blk s H scope (compEnvC scope cl C X.env) fp) W0 elt te fe) (hsl : ∀ i ∈ sl, i ∈ vs := by decide) (hs : ∀ x, foldedSetIterable iter X.env x = pure x := by intro _; rfl) :
    ZE X W (.ListComp elt [⟨tg, iter, ifs, 0⟩] scope pos) (tLc wi t tt te vs) (zLcK k vs fi g ft fe) := by
  subst hvs
  refine ⟨pe_lc hc hN hi.pi ok (fun s H C cl fp => (hg s H C cl fp).pg) (fun s H C cl fp => (ht s H C cl fp).pt) (fun s H C cl fp => (he s H C cl fp).pe) hs, ?_⟩
  exact lc_sd k hi (hg X.s_0 X.H_0 0 [] []).sd hsl (ht X.s_0 X.H_0 0 [] []).sd (he X.s_0 X.H_0 0 [] []).sd
theorem zs_setLc {k : Mk} {vs : List Nat} {i : Nat} {y : Str} {py spos : Pos} (hvs : own.map (·.2) = vs) (hc : X.calm = true) (hN : X.N.Nodup) (hy : X.N[i]? = some y) (hyl : X.env.scope.names.lookup y = some .local)
    (hsw : swapsWith (.ListComp elt [⟨tg, iter, ifs, 0⟩] scope pos) (some (.Name y py)) spos.line X.env = pure true) (hi : ZI X W tg iter wi fi) (ok : BlkOk X.N X.env.scope scope own)
    (hg : ∀ (s : Shared) (H : Hp) (C : Addr) (cl : List (Str × Addr)) (fp : List Addr), ZG (X.blk s H scope (compEnvC scope cl C X.env) fp) tg t sl g) (ht : ∀ (s : Shared) (H : Hp) (C : Addr) (cl : List (Str × Addr)) (fp : List Addr), ZTs (X.blk s H scope (compEnvC scope cl C X.env) fp) W0 ifs tt ft)
    (he : ∀ (s : Shared) (H : Hp) (C : Addr) (cl : List (Str × Addr)) (fp : List Addr), ZE (X.blk s H scope (compEnvC scope cl C X.env) fp) W0 elt te fe) (hsl : ∀ i ∈ sl, i ∈ vs := by decide) (hs : ∀ x, foldedSetIterable iter X.env x = pure x := by intro _; rfl) :
    ZS X W (.Assign [.Name y py] (.ListComp elt [⟨tg, iter, ifs, 0⟩] scope pos) spos) (tAsg (tLc wi t tt te vs) (gName i)) (zSet i (zLcK k vs fi g ft fe)) := by
  subst hvs
  refine ⟨ps_setLc hc hN hy hyl hsw hi.pi ok (fun s H C cl fp => (hg s H C cl fp).pg) (fun s H C cl fp => (ht s H C cl fp).pt) (fun s H C cl fp => (he s H C cl fp).pe) hs, ?_⟩
  exact ss_set (lc_sd k hi (hg X.s_0 X.H_0 0 [] []).sd hsl (ht X.s_0 X.H_0 0 [] []).sd (he X.s_0 X.H_0 0 [] []).sd)
theorem ze_lc2 {k : Mk} {vs vs1 : List Nat} (hvs : own.map (·.2) = vs) (hc : X.calm = true) (hN : X.N.Nodup) (hi : ZI X W tg iter wi fi) (ok : BlkOk X.N X.env.scope scope own) (hv : ∀ i ∈ vs1, i ∈ own.map (·.2))
    (hg : ∀ (s : Shared) (H : Hp) (C : Addr) (cl : List (Str × Addr)) (fp : List Addr), ZG (X.blk s H scope (compEnvC scope cl C X.env) fp) tg t sl g) (ht : ∀ (s : Shared) (H : Hp) (C : Addr) (cl : List (Str × Addr)) (fp : List Addr), ZTs (X.blk s H scope (compEnvC scope cl C X.env) fp) W0 ifs tt ft)
    (hi1 : ∀ (s : Shared) (H : Hp) (C : Addr) (cl : List (Str × Addr)) (fp : List Addr), ZI (X.blk s H scope (compEnvC scope cl C X.env) fp) W0 tg1 iter1 wi1 fi1)
    (hg1 : ∀ (s : Shared) (H : Hp) (C : Addr) (cl : List (Str × Addr)) (fp : List Addr), ZG (X.blk s H scope (compEnvC scope cl C X.env) fp) tg1 t1 sl1 g1) (ht1 : ∀ (s : Shared) (H : Hp) (C : Addr) (cl : List (Str × Addr)) (fp : List Addr), ZTs (X.blk s H scope (compEnvC scope cl C X.env) fp) W0 ifs1 tt1 ft1)
    (he : ∀ (s : Shared) (H : Hp) (C : Addr) (cl : List (Str × Addr)) (fp : List Addr), ZE (X.blk s H scope (compEnvC scope cl C X.env) fp) W0 elt te fe) (hsl : ∀ i ∈ sl, i ∈ vs := by decide) (hsl1 : ∀ i ∈ sl1, i ∈ vs1 := by decide)
    (hs : ∀ x, foldedSetIterable iter X.env x = pure x := by intro _; rfl) (hs1 : ∀ env x, foldedSetIterable iter1 env x = pure x := by intro _ _; rfl) :
    ZE X W (.ListComp elt [⟨tg, iter, ifs, 0⟩, ⟨tg1, iter1, ifs1, 0⟩] scope pos) (tLc2 wi t tt wi1 t1 tt1 te vs vs1) (zLc2K k vs vs1 fi g ft fi1 g1 ft1 fe) := by
  subst hvs
  refine ⟨pe_lc2 hc hN hi.pi ok hv (fun s H C cl fp => (hg s H C cl fp).pg) (fun s H C cl fp => (ht s H C cl fp).pt) (fun s H C cl fp => (hi1 s H C cl fp).pi) (fun s H C cl fp => (hg1 s H C cl fp).pg) (fun s H C cl fp => (ht1 s H C cl fp).pt) (fun s H C cl fp => (he s H C cl fp).pe) hs hs1, ?_⟩
  exact lc2_sd k hi (hg X.s_0 X.H_0 0 [] []).sd hsl (ht X.s_0 X.H_0 0 [] []).sd (hi1 X.s_0 X.H_0 0 [] []).sd (hg1 X.s_0 X.H_0 0 [] []).sd hsl1 (ht1 X.s_0 X.H_0 0 [] []).sd (he X.s_0 X.H_0 0 [] []).sd
theorem zs_setLc2 {k : Mk} {vs vs1 : List Nat} {i : Nat} {y : Str} {py spos : Pos} (hvs : own.map (·.2) = vs) (hc : X.calm = true) (hN : X.N.Nodup) (hy : X.N[i]? = some y) (hyl : X.env.scope.names.lookup y = some .local)
    (hsw : swapsWith (.ListComp elt [⟨tg, iter, ifs, 0⟩, ⟨tg1, iter1, ifs1, 0⟩] scope pos) (some (.Name y py)) spos.line X.env = pure true) (hi : ZI X W tg iter wi fi) (ok : BlkOk X.N X.env.scope scope own) (hv : ∀ i ∈ vs1, i ∈ own.map (·.2))
    (hg : ∀ (s : Shared) (H : Hp) (C : Addr) (cl : List (Str × Addr)) (fp : List Addr), ZG (X.blk s H scope (compEnvC scope cl C X.env) fp) tg t sl g) (ht : ∀ (s : Shared) (H : Hp) (C : Addr) (cl : List (Str × Addr)) (fp : List Addr), ZTs (X.blk s H scope (compEnvC scope cl C X.env) fp) W0 ifs tt ft)
    (hi1 : ∀ (s : Shared) (H : Hp) (C : Addr) (cl : List (Str × Addr)) (fp : List Addr), ZI (X.blk s H scope (compEnvC scope cl C X.env) fp) W0 tg1 iter1 wi1 fi1)
    (hg1 : ∀ (s : Shared) (H : Hp) (C : Addr) (cl : List (Str × Addr)) (fp : List Addr), ZG (X.blk s H scope (compEnvC scope cl C X.env) fp) tg1 t1 sl1 g1) (ht1 : ∀ (s : Shared) (H : Hp) (C : Addr) (cl : List (Str × Addr)) (fp : List Addr), ZTs (X.blk s H scope (compEnvC scope cl C X.env) fp) W0 ifs1 tt1 ft1)
    (he : ∀ (s : Shared) (H : Hp) (C : Addr) (cl : List (Str × Addr)) (fp : List Addr), ZE (X.blk s H scope (compEnvC scope cl C X.env) fp) W0 elt te fe) (hsl : ∀ i ∈ sl, i ∈ vs := by decide) (hsl1 : ∀ i ∈ sl1, i ∈ vs1 := by decide)
    (hs : ∀ x, foldedSetIterable iter X.env x = pure x := by intro _; rfl) (hs1 : ∀ env x, foldedSetIterable iter1 env x = pure x := by intro _ _; rfl) :
    ZS X W (.Assign [.Name y py] (.ListComp elt [⟨tg, iter, ifs, 0⟩, ⟨tg1, iter1, ifs1, 0⟩] scope pos) spos) (tAsg (tLc2 wi t tt wi1 t1 tt1 te vs vs1) (gName i)) (zSet i (zLc2K k vs vs1 fi g ft fi1 g1 ft1 fe)) := by
  subst hvs
  refine ⟨ps_setLc2 hc hN hy hyl hsw hi.pi ok hv (fun s H C cl fp => (hg s H C cl fp).pg) (fun s H C cl fp => (ht s H C cl fp).pt) (fun s H C cl fp => (hi1 s H C cl fp).pi) (fun s H C cl fp => (hg1 s H C cl fp).pg) (fun s H C cl fp => (ht1 s H C cl fp).pt) (fun s H C cl fp => (he s H C cl fp).pe) hs hs1, ?_⟩
  exact ss_set (lc2_sd k hi (hg X.s_0 X.H_0 0 [] []).sd hsl (ht X.s_0 X.H_0 0 [] []).sd (hi1 X.s_0 X.H_0 0 [] []).sd (hg1 X.s_0 X.H_0 0 [] []).sd hsl1 (ht1 X.s_0 X.H_0 0 [] []).sd (he X.s_0 X.H_0 0 [] []).sd)
end
end Z

namespace Z
open PySem L2
open PySem.Spec PyProof.Rows
variable [Tabs]

/-! ### what a value leans on in the store -/
mutual
def D.cl (k : Nat) : D → Prop
  | .tup ds => D.cls k ds
  | .rot ds => D.cls k ds
  | .lst ds => D.cls k ds
  | .dct _ ds => D.cls k ds
  | .ptr n => n < k
  | _ => True
def D.cls (k : Nat) : List D → Prop
  | [] => True
  | d :: ds => D.cl k d ∧ D.cls k ds
end
def C.cl (k : Nat) : C → Prop
  | .lst ds => D.cls k ds
  | .dct _ ds => D.cls k ds
  | .gone => True
theorem D.cls_of (k : Nat) : ∀ {ds : List D}, (∀ d ∈ ds, D.cl k d) → D.cls k ds
  | [], _ => trivial
  | d :: ds, h => ⟨h d List.mem_cons_self, D.cls_of k fun e he => h e (List.mem_cons_of_mem _ he)⟩
mutual
theorem Rep.cl {K Hc} {m : List Addr} : ∀ (d : D) (v : V), Rep K Hc m d v → D.cl m.length d
  | .non, _, _ => trivial
  | .bl _, _, _ => trivial
  | .int _, _, _ => trivial
  | .str _, _, _ => trivial
  | .rol _, _, _ => trivial
  | .rng _ _, _, _ => trivial
  | .ty _, _, _ => trivial
  | .tup ds, _, ⟨_, vs, _, _, r⟩ => Reps.cl ds vs r
  | .rot ds, _, ⟨_, vs, _, _, r⟩ => Reps.cl ds vs r
  | .lst ds, _, ⟨_, vs, _, _, r⟩ => Reps.cl ds vs r
  | .dct _ ds, _, ⟨_, vs, _, _, _, r⟩ => Reps.cl ds vs r
  | .ptr n, _, ⟨_, _, h⟩ => (List.getElem?_eq_some_iff.mp h).1
theorem Reps.cl {K Hc} {m : List Addr} : ∀ (ds : List D) (vs : List V), Reps K Hc m ds vs → D.cls m.length ds
  | [], _, _ => trivial
  | d :: ds, _, ⟨v, r, _, h1, h2⟩ => ⟨Rep.cl d v h1, Reps.cl ds r h2⟩
end
mutual
theorem Rep.cut {K Hc} {m l : List Addr} : ∀ (d : D) (v : V), D.cl m.length d → Rep K Hc (m ++ l) d v → Rep K Hc m d v
  | .non, _, _, h => h
  | .bl _, _, _, h => h
  | .int _, _, _, h => h
  | .str _, _, _, h => h
  | .rol _, _, _, h => h
  | .rng _ _, _, _, h => h
  | .ty _, _, _, h => h
  | .tup ds, _, c, ⟨a, vs, e, q, r⟩ => ⟨a, vs, e, q, Reps.cut0 ds vs c r⟩
  | .rot ds, _, c, ⟨a, vs, e, q, r⟩ => ⟨a, vs, e, q, Reps.cut0 ds vs c r⟩
  | .lst ds, _, c, ⟨a, vs, e, q, r⟩ => ⟨a, vs, e, q, Reps.cut0 ds vs c r⟩
  | .dct _ ds, _, c, ⟨a, vs, e, q, l, r⟩ => ⟨a, vs, e, q, l, Reps.cut0 ds vs c r⟩
  | .ptr n, _, c, ⟨a, e, h⟩ => ⟨a, e, by rw [List.getElem?_append_left c] at h; exact h⟩
theorem Reps.cut0 {K Hc} {m l : List Addr} : ∀ (ds : List D) (vs : List V), D.cls m.length ds → Reps K Hc (m ++ l) ds vs → Reps K Hc m ds vs
  | [], _, _, h => h
  | d :: ds, _, c, ⟨v, r, e, h1, h2⟩ => ⟨v, r, e, Rep.cut d v c.1 h1, Reps.cut0 ds r c.2 h2⟩
end
/-- the store back to its first k cells -/
theorem Zh.drop {K fr} {m l : List Addr} {Hc H : Hp} {S : Sto} (z : Zh K fr (m ++ l) Hc S H) (h : ∀ n c, n < m.length → S[n]? = some c → C.cl m.length c) : Zh K fr m Hc (S.take m.length) H := by
  have hl := z.len
  rw [List.length_append] at hl
  refine ⟨z.sub, by rw [List.length_take]; omega, z.nd.sublist (List.sublist_append_left _ _), fun n a c h1 h2 => ?_, fun p hp => ?_, z.fnd, fun P hP => let h := z.tab P hP; ⟨h.1, h.2.1, fun q => h.2.2.1 (List.mem_append_left _ q), h.2.2.2⟩⟩
  · have hn : n < m.length := (List.getElem?_eq_some_iff.mp h1).1
    rw [List.getElem?_take_of_lt hn] at h2
    have q := z.cel n a c (by rw [List.getElem?_append_left hn]; exact h1) h2
    cases c with
    | gone => exact q
    | lst ds =>
      obtain ⟨q1, vs, q2, q3⟩ := q
      exact ⟨q1, vs, q2, Reps.cut0 ds vs (h n _ hn h2) q3⟩
    | dct ks ds =>
      obtain ⟨q1, vs, q2, ql, q3⟩ := q
      exact ⟨q1, vs, q2, ql, Reps.cut0 ds vs (h n _ hn h2) q3⟩
  · obtain ⟨h1, h2, h3⟩ := z.frm p hp
    exact ⟨h1, h2, fun e => h3 (List.mem_append_left _ e)⟩

/-! ### freezing -/
mutual
def frz : Nat → D → Sto → Option (D × Sto)
  | 0, d, S => some (d, S)
  | k + 1, .ptr n, S => match S[n]? with
    | some (.lst ds) => match frzs k ds S with
      | some (es, S1) => match S1[n]? with
        | some (.lst _) => some (.lst es, S1.set n .gone)
        | _ => none
      | none => none
    | _ => none
  | k + 1, .tup ds, S => match frzs k ds S with
    | some (es, S1) => some (.tup es, S1)
    | none => none
  | k + 1, .dct ks ds, S => match frzs k ds S with
    | some (es, S1) => if es.length = ds.length then some (.dct ks es, S1) else none
    | none => none
  | _ + 1, d, S => some (d, S)
def frzs : Nat → List D → Sto → Option (List D × Sto)
  | 0, ds, S => some (ds, S)
  | _ + 1, [], S => some ([], S)
  | k + 1, d :: ds, S => match frz (k + 1) d S with
    | some (e, S1) => match frzs (k + 1) ds S1 with
      | some (es, S2) => some (e :: es, S2)
      | none => none
    | none => none
end
theorem Zh.freezeAs {K fr m Hc S H} (z : Zh K fr m Hc S H) {n : Nat} {a : Addr} {ds es : List D} {vs : List V} (hn : m[n]? = some a) (hs : S[n]? = some (.lst ds)) (hH : H a = some (.lst vs)) (hr : Reps K Hc m es vs) :
    ∃ Hc', Zh K fr m Hc' (S.set n .gone) H ∧ Ex m Hc m Hc' ∧ Rep K Hc' m (.lst es) (.ref a) := by
  have z' := z.wr (es := es) hn hs hr
  have e : upd H a (.lst vs) = H := by
    funext b
    unfold upd
    split
    · rename_i h; rw [h, hH]
    · rfl
  rw [e] at z'
  have hl : n < S.length := (List.getElem?_eq_some_iff.mp hs).1
  obtain ⟨Hc', z2, x, r⟩ := z'.freeze hn (by rw [List.getElem?_set_self hl])
  rw [List.set_set] at z2
  exact ⟨Hc', z2, x, r⟩
mutual
theorem frz_ok {K fr m H} : ∀ (k : Nat) (d : D) (S : Sto) (d' : D) (S' : Sto) (v : V) (Hc : Hp), frz k d S = some (d', S') → Zh K fr m Hc S H → Rep K Hc m d v → ∃ Hc', Ex m Hc m Hc' ∧ Zh K fr m Hc' S' H ∧ Rep K Hc' m d' v
  | 0, d, S, d', S', v, Hc, e, z, r => by
    unfold frz at e
    cases e
    exact ⟨Hc, Ex.refl _ _, z, r⟩
  | k + 1, .ptr n, S, d', S', v, Hc, e, z, r => by
    obtain ⟨a, rfl, hn⟩ := r
    unfold frz at e
    cases h : S[n]? with
    | none => simp [h] at e
    | some c =>
      cases c with
      | gone => simp [h] at e
      | dct ks ds => simp [h] at e
      | lst ds =>
        simp only [h] at e
        obtain ⟨_, vs, h1, h2⟩ := z.cel n a _ hn h
        cases h3 : frzs k ds S with
        | none => simp [h3] at e
        | some p =>
          obtain ⟨es, S1⟩ := p
          simp only [h3] at e
          obtain ⟨Hc1, x1, z1, r1⟩ := frzs_ok k ds S es S1 vs Hc h3 z h2
          cases h4 : S1[n]? with
          | none => simp [h4] at e
          | some c =>
            cases c with
            | gone => simp [h4] at e
            | dct ks ds => simp [h4] at e
            | lst ds1 =>
              simp only [h4] at e
              cases e
              obtain ⟨Hc2, z2, x2, r2⟩ := z1.freezeAs hn h4 h1 r1
              exact ⟨Hc2, x1.trans x2, z2, r2⟩
  | k + 1, .tup ds, S, d', S', v, Hc, e, z, r => by
    obtain ⟨a, vs, rfl, q, rr⟩ := r
    unfold frz at e
    cases h3 : frzs k ds S with
    | none => simp [h3] at e
    | some p =>
      obtain ⟨es, S1⟩ := p
      simp only [h3] at e
      cases e
      obtain ⟨Hc1, x1, z1, r1⟩ := frzs_ok k ds S es _ vs Hc h3 z rr
      exact ⟨Hc1, x1, z1, a, vs, rfl, x1.sub _ _ q, r1⟩
  | k + 1, .dct ks ds, S, d', S', v, Hc, e, z, r => by
    obtain ⟨a, vs, rfl, q, l, rr⟩ := r
    unfold frz at e
    cases h3 : frzs k ds S with
    | none => simp [h3] at e
    | some p =>
      obtain ⟨es, S1⟩ := p
      simp only [h3] at e
      obtain ⟨Hc1, x1, z1, r1⟩ := frzs_ok k ds S es _ vs Hc h3 z rr
      by_cases hl : es.length = ds.length
      · rw [if_pos hl] at e
        cases e
        exact ⟨Hc1, x1, z1, a, vs, rfl, x1.sub _ _ q, l.trans hl.symm, r1⟩
      · rw [if_neg hl] at e
        cases e
  | k + 1, .non, S, d', S', v, Hc, e, z, r => by unfold frz at e; cases e; exact ⟨Hc, Ex.refl _ _, z, r⟩
  | k + 1, .bl _, S, d', S', v, Hc, e, z, r => by unfold frz at e; cases e; exact ⟨Hc, Ex.refl _ _, z, r⟩
  | k + 1, .int _, S, d', S', v, Hc, e, z, r => by unfold frz at e; cases e; exact ⟨Hc, Ex.refl _ _, z, r⟩
  | k + 1, .str _, S, d', S', v, Hc, e, z, r => by unfold frz at e; cases e; exact ⟨Hc, Ex.refl _ _, z, r⟩
  | k + 1, .lst _, S, d', S', v, Hc, e, z, r => by unfold frz at e; cases e; exact ⟨Hc, Ex.refl _ _, z, r⟩
  | k + 1, .rol _, S, d', S', v, Hc, e, z, r => by unfold frz at e; cases e; exact ⟨Hc, Ex.refl _ _, z, r⟩
  | k + 1, .rng _ _, S, d', S', v, Hc, e, z, r => by unfold frz at e; cases e; exact ⟨Hc, Ex.refl _ _, z, r⟩
  | k + 1, .ty _, S, d', S', v, Hc, e, z, r => by unfold frz at e; cases e; exact ⟨Hc, Ex.refl _ _, z, r⟩
  | k + 1, .rot _, S, d', S', v, Hc, e, z, r => by unfold frz at e; cases e; exact ⟨Hc, Ex.refl _ _, z, r⟩
theorem frzs_ok {K fr m H} : ∀ (k : Nat) (ds : List D) (S : Sto) (es : List D) (S' : Sto) (vs : List V) (Hc : Hp), frzs k ds S = some (es, S') → Zh K fr m Hc S H → Reps K Hc m ds vs → ∃ Hc', Ex m Hc m Hc' ∧ Zh K fr m Hc' S' H ∧ Reps K Hc' m es vs
  | 0, ds, S, es, S', vs, Hc, e, z, r => by
    unfold frzs at e
    cases e
    exact ⟨Hc, Ex.refl _ _, z, r⟩
  | k + 1, [], S, es, S', vs, Hc, e, z, r => by
    unfold frzs at e
    cases e
    exact ⟨Hc, Ex.refl _ _, z, r⟩
  | k + 1, d :: ds, S, es, S', vs, Hc, e, z, r => by
    obtain ⟨v, r', rfl, h1, h2⟩ := r
    unfold frzs at e
    cases h3 : frz (k + 1) d S with
    | none => simp [h3] at e
    | some p =>
      obtain ⟨d1, S1⟩ := p
      simp only [h3] at e
      obtain ⟨Hc1, x1, z1, r1⟩ := frz_ok (k + 1) d S d1 S1 v Hc h3 z h1
      cases h4 : frzs (k + 1) ds S1 with
      | none => simp [h4] at e
      | some p =>
        obtain ⟨es1, S2⟩ := p
        simp only [h4] at e
        cases e
        obtain ⟨Hc2, x2, z2, r2⟩ := frzs_ok (k + 1) ds S1 es1 _ r' Hc1 h4 z1 (Reps.mono x1 _ _ h2)
        exact ⟨Hc2, x1.trans x2, z2, v, r', rfl, Rep.mono x2 _ _ r1, r2⟩
end

/-! ### a def's promise -/
def zSp (K : PySem.W.Frag) (mg : Mg) (n : Nat) (F : List D → Sto → Rs D) : Sp := fun vs H Q E => vs.length = n ∧ ∃ fr m Hc S ds, Zh K fr m Hc S H ∧ Reps K Hc m ds vs ∧ Pst K mg fr (fun Hc m d v => Rep K Hc m d v) m Hc (fun c o H => E c o H) Q (F ds S)
structure FZ (P : Program) (w : World) (K : PySem.W.Frag) (mg : Mg) (base : Heap) (k : Nat) (x : Str) (st : Stmt) (ps : List Str) (F : List D → Sto → Rs D) : Prop where
  ex : ∃ (f : Addr) (fd : FuncData), mg x = some (.ref f) ∧ Fun K x x st f fd ∧ Binds K fd ps [] ∧ FnOk P w K mg base (L2.CX P w) k f fd ps (zSp K mg ps.length F)
/-- the body's run against what the def is worth: fu: how deep what is handed back is frozen -/
def Fin (fu : Nat) (S0 : Sto) (d : D) (S1 : Sto) (d' : D) (S' : Sto) : Prop :=
  ∃ S2, frz fu d S1 = some (d', S2) ∧ (S' = S2 ∨ (S' = S2.take S0.length ∧ S0.length ≤ S2.length ∧ D.cl S0.length d' ∧ ∀ n c, n < S0.length → S2[n]? = some c → S0[n]? = some c ∨ C.cl S0.length c))
def FinX (S0 : Sto) (e : XV) (S1 S' : Sto) : Prop :=
  S' = S1.take S0.length ∧ S0.length ≤ S1.length ∧ (∀ fs, e.fs = some fs → ∀ p ∈ fs, D.cl S0.length p.2) ∧ ∀ n c, n < S0.length → S1[n]? = some c → S0[n]? = some c ∨ C.cl S0.length c
def Impl (fu : Nat) (S0 : Sto) (r : Ss) : Rs D → Prop
  | .stk => True
  | .ok d' S' => (∃ d S1, r = .mk (.ret d) S1 ∧ Fin fu S0 d S1 d' S') ∨ ∃ env S1, r = .mk (.next env) S1 ∧ Fin fu S0 .non S1 d' S'
  | .exc e S' => ∃ env S1, r = .mk (.exc e env) S1 ∧ FinX S0 e S1 S'
def startE (N : List Str) (ds : List D) : En := ds.map some ++ List.replicate (N.length - ds.length) none
theorem ze_start {K Hc m} {N : List Str} {ds : List D} {vs : List V} (r : Reps K Hc m ds vs) : Ze K Hc m (startE N ds) (L2.start N vs) := by
  have hl := r.length
  refine ⟨by unfold startE L2.start; simp [hl], fun i d h => ?_, trivial⟩
  unfold startE at h
  by_cases hi : i < ds.length
  · rw [List.getElem?_append_left (by simpa using hi), List.getElem?_map] at h
    cases e : ds[i]? with
    | none => exact absurd h (by rw [e]; intro q; cases q)
    | some d0 =>
      rw [e] at h
      cases h
      obtain ⟨v, h1, h2⟩ := r.get e
      refine ⟨v, ?_, h2⟩
      unfold L2.start
      have hi2 : i < vs.length := by rw [hl]; exact hi
      rw [List.getElem?_append_left (by simpa using hi2), List.getElem?_map, h1]
      rfl
  · rw [List.getElem?_append_right (by simpa using hi), List.getElem?_replicate] at h
    split at h <;> cases h
theorem fin_ok {K fr m m1 Hc Hc1 S0 S1 S' fu} {H H1 : Hp} {d d' : D} {v : V} (z0 : Zh K fr m Hc S0 H) (x : Ex m Hc m1 Hc1) (z1 : Zh K fr m1 Hc1 S1 H1) (r : Rep K Hc1 m1 d v) (f : Fin fu S0 d S1 d' S') :
    ∃ m' Hc', Ex m Hc m' Hc' ∧ Zh K fr m' Hc' S' H1 ∧ Rep K Hc' m' d' v := by
  obtain ⟨S2, e, h⟩ := f
  obtain ⟨Hc2, x2, z2, r2⟩ := frz_ok fu d S1 d' S2 v Hc1 e z1 r
  rcases h with rfl | ⟨rfl, h0, h1, h2⟩
  · exact ⟨m1, Hc2, x.trans x2, z2, r2⟩
  · obtain ⟨⟨l, rfl⟩, sx⟩ := x.trans x2
    have hm : m.length = S0.length := z0.len
    refine ⟨m, Hc2, ⟨⟨[], by simp⟩, sx⟩, ?_, Rep.cut d' v (by rw [hm]; exact h1) r2⟩
    rw [← hm]
    refine z2.drop fun n c hn hc => ?_
    rcases h2 n c (by rw [← hm]; exact hn) hc with q | q
    · have ha : m[n]? = some m[n] := List.getElem?_eq_getElem hn
      cases c with
      | gone => trivial
      | lst ds =>
        obtain ⟨_, vs, _, q3⟩ := z0.cel n _ _ ha q
        exact Reps.cl ds vs q3
      | dct ks ds =>
        obtain ⟨_, vs, _, _, q3⟩ := z0.cel n _ _ ha q
        exact Reps.cl ds vs q3
    · rw [hm]; exact q
theorem finX_ok {K mg fr m m1 Hc Hc1 S0 S1 S'} {H H1 : Hp} {e : XV} {cls : Value} {od : Option Addr} (z0 : Zh K fr m Hc S0 H) (x : Ex m Hc m1 Hc1) (z1 : Zh K fr m1 Hc1 S1 H1) (r : RepX K mg Hc1 m1 e cls od H1) (f : FinX S0 e S1 S') :
    ∃ m' Hc', Ex m Hc m' Hc' ∧ Zh K fr m' Hc' S' H1 ∧ RepX K mg Hc' m' e cls od H1 := by
  obtain ⟨rfl, h0, h1, h2⟩ := f
  obtain ⟨⟨l, rfl⟩, sx⟩ := x
  have hm : m.length = S0.length := z0.len
  refine ⟨m, Hc1, ⟨⟨[], by simp⟩, sx⟩, ?_, ?_⟩
  · rw [← hm]
    refine z1.drop fun n c hn hc => ?_
    rcases h2 n c (by rw [← hm]; exact hn) hc with q | q
    · have ha : m[n]? = some m[n] := List.getElem?_eq_getElem hn
      cases c with
      | gone => trivial
      | lst ds =>
        obtain ⟨_, vs, _, q3⟩ := z0.cel n _ _ ha q
        exact Reps.cl ds vs q3
      | dct ks ds =>
        obtain ⟨_, vs, _, _, q3⟩ := z0.cel n _ _ ha q
        exact Reps.cl ds vs q3
    · rw [hm]; exact q
  · obtain ⟨Ca, g1, g2, g3⟩ := r
    refine ⟨Ca, g1, g2, ?_⟩
    cases hf : e.fs with
    | none => rw [hf] at g3; exact g3
    | some fs =>
      rw [hf] at g3
      obtain ⟨d, vfs, e1, e2, e3⟩ := g3
      refine ⟨d, vfs, e1, e2, ?_⟩
      have hc := h1 fs hf
      clear hf e2
      revert vfs
      induction fs with
      | nil => intro vfs e3; exact e3
      | cons p fs ih =>
        intro vfs e3
        obtain ⟨n, dd⟩ := p
        obtain ⟨v, r, rfl, q1, q2⟩ := e3
        exact ⟨v, r, rfl, Rep.cut dd v (by rw [hm]; exact hc (n, dd) List.mem_cons_self) q1, ih (fun p hp => hc p (List.mem_cons_of_mem _ hp)) r q2⟩
section
variable {P : Program} {w : World} {K : PySem.W.Frag} {mg : Mg} {base : Heap}
/-- THE RULE for a def -/
theorem fz_of {x : Str} {st : Stmt} {f : Addr} {fd : FuncData} {N ps : List Str} {k : Nat} {F : List D → Sto → Rs D} {run : SM} (fu : Nat) (gm : mg x = some (.ref f)) (hF : Fun K x x st f fd) (S : FnScope N ps (defScope st)) (hb : Binds K fd ps [])
    (body : ∀ (cdv : Value) (A : Around) (outer : List Env) (s : Shared) (H : Hp) (E : XK), Room k (A.deeper (envOfC x (defScope st) s.heap.objs.size f cdv)) →
      ∃ t, ZSs (cxOf (L2.CX P w) P w K mg base N x (defScope st) f cdv A outer s H E) (fun cls d _ H => E cls d H) (defBody st) t run)
    (impl : ∀ ds S0, ds.length = ps.length → Impl fu S0 (run (startE N ds) S0) (F ds S0)) : FZ P w K mg base (k + 1) x st ps F := by
  refine ⟨f, fd, gm, hF, hb, hF.okX S (fun vs H Q E h => h.1) fun cdv A outer s H vs Q E hr hsp => ?_⟩
  obtain ⟨hl, fr, m, Hc, S0, ds, z, r, p⟩ := hsp
  obtain ⟨t, zs⟩ := body cdv A outer s H E hr
  refine ⟨t, zs.ps, ?_⟩
  have im := impl ds S0 (by rw [← r.length]; exact hl)
  refine zs.sd fr m Hc (startE N ds) S0 (L2.start N vs) H _ z (ze_start r) ?_
  cases h : F ds S0 with
  | stk => rw [h] at p; exact p.elim
  | ok d' S' =>
    rw [h] at p im
    rcases im with ⟨d, S1, e, fi⟩ | ⟨env, S1, e, fi⟩
    · show PstS _ _ _ _ _ _ _ (run (startE N ds) S0)
      rw [e]
      intro v m1 Hc1 H1 x1 z1 r1
      obtain ⟨m2, Hc2, x2, z2, r2⟩ := fin_ok z x1 z1 r1 fi
      exact p v m2 Hc2 H1 x2 z2 r2
    · show PstS _ _ _ _ _ _ _ (run (startE N ds) S0)
      rw [e]
      intro σ1 m1 Hc1 H1 x1 z1 _
      obtain ⟨m2, Hc2, x2, z2, r2⟩ := fin_ok (d := .non) (v := .non) z x1 z1 rfl fi
      exact p .non m2 Hc2 H1 x2 z2 r2
  | exc e S' =>
    rw [h] at p im
    obtain ⟨env, S1, e1, fi⟩ := im
    show PstS _ _ _ _ _ _ _ (run (startE N ds) S0)
    rw [e1]
    intro σ' cls od m1 Hc1 H1 x1 z1 _ r1
    obtain ⟨m2, Hc2, x2, z2, r2⟩ := finX_ok z x1 z1 r1 fi
    exact p cls od m2 Hc2 H1 x2 z2 r2
end
/-! ### calls -/
def zCallF (n : Nat) (F : List D → Sto → Rs D) (a : EM (List D)) : EM D := fun env S => (a env S).bnd fun xs S1 => if xs.length = n then F xs S1 else .stk
section
variable {X : Cx} {W : WX} {pos p : Pos} {x : Str} {st : Stmt} {ps : List Str} {k : Nat} {F : List D → Sto → Rs D} {e : Expr} {es : List Expr} {t : TA} {f : EM (List D)}
theorem ze_call [Hot] (h : FZ X.prog X.w X.K X.mg X.base k x st ps F) (hr : Room k X.A) (hg : Gl X x) (tk : Takes X W) (ha : ZA X W (e :: es) t f) (hdb : (x == ("__debug__" : Str)) = false := by decide) (he : starEach (e :: es) X.env = (false, eval e X.env) :: starEach es X.env := by rfl)
    (hpl : (backTo pos (starEach es X.env)).any (·.1) = false := by rfl) :
    ZE X W (.Call (.Name x p) (e :: es) [] pos) (tCallS (zSp X.K X.mg ps.length F) (WE W) t) (zCallF ps.length F f) := by
  obtain ⟨fa, fd, gm, hF, hb, ok⟩ := h.ex
  refine ⟨pe_callS ok hr hg gm hF.kp hb (fun σ => passAt tk σ) ha.pa hdb he hpl, ?_⟩
  intro fr m Hc env S σ H Q z zz p
  refine ha.sd fr m Hc env S σ H _ z zz (p.bnd fun xs S1 vs m1 Hc1 H1 x1 z1 r1 p1 => ?_)
  by_cases hl : xs.length = ps.length
  · rw [if_pos hl] at p1
    exact ⟨by rw [r1.length]; exact hl, fr, m1, Hc1, S1, xs, z1, r1, p1⟩
  · rw [if_neg hl] at p1; exact p1.elim
end
end Z

namespace Z
open PySem L2
open PySem.Spec PyProof.Rows
variable [Tabs]

/-! ### [..] * n, mutable -/
def dMulC (x y : D) (S : Sto) : Rs D := match x, y with
  | .lst xs, .int k => if k ≤ 1000000 ∧ -1000000 ≤ k ∧ xs.length * k.toNat ≤ bigN then .ok (.ptr S.length) (S ++ [.lst (List.replicate k.toNat xs).flatten]) else .stk
  | _, _ => .stk
theorem os_mulC {K mg} : OS K mg rMulZ dMulC := by
  intro fr m Hc S H x y dx dy w Q z r1 r2 p
  cases dx with
  | lst xs =>
    cases dy <;> first | exact p.elim | skip
    rename_i k
    cases r2
    simp only [dMulC] at p
    by_cases e : k ≤ 1000000 ∧ -1000000 ≤ k ∧ xs.length * k.toNat ≤ bigN
    · rw [if_pos e] at p
      obtain ⟨a, vs, e1, h1, h2⟩ := r1
      subst e1
      refine .inr ⟨a, k, vs, rfl, rfl, z.sub _ _ h1, by omega, by omega, by rw [h2.length]; exact big_le e.2.2, fun q hq => ?_⟩
      exact p.useC z hq (h2.rep _)
    · rw [if_neg e] at p; exact p.elim
  | _ => cases dy <;> exact p.elim
theorem zo_mulC {X : Cx} : ZO X (binaryOp .Mult) rMulZ dMulC := ⟨op_mul.or op_rep, os_mulC⟩

/-! ### a comparison in two steps, as a test -/
section
variable {X : Cx} {W : WX} {pos : Pos} {a b c : Expr} {ta tb tc : TE} {fa fb fc : EM D}
theorem zt_chain {op op' : CmpOp} {r r' : R2} {o o' : D → D → Sto → Rs D} (ho : ZO X (compareOp op) r o) (ho' : ZO X (compareOp op') r' o') (ha : ZE X W a ta fa) (hb : ZE X W b tb fb) (hc : ZE X W c tc fc)
    (hm : lastMarks [op, op'] [b, c] = false := by with_unfolding_all rfl) : ZT X W (.Compare a [op, op'] [b, c] pos) (tTest (tChain r r' ta tb tc)) (zB (zChain o o' fa fb fc)) := by
  refine ⟨pt_chain ho.op ho'.op ha.pe hb.pe hc.pe hm, ?_⟩
  intro fr m Hc env S σ H Q z zz p
  refine (ze_chain (pos := pos) ho ho' ha hb hc hm).sd fr m Hc env S σ H _ z zz (p.bnd fun x S1 v m1 Hc1 H1 x1 z1 r1 p1 => ?_)
  cases x <;> first | exact p1.elim | skip
  cases r1
  exact ⟨_, rfl, p1.use z1 rfl⟩
end

/-! ### isinstance -/
def tyD (d : D) (S : Sto) : Option String := match d with
  | .non => some "NoneType"
  | .bl _ => some "bool"
  | .int _ => some "int"
  | .str _ => some "str"
  | .tup _ => some "tuple"
  | .lst _ => some "list"
  | .ptr n => match S[n]? with
    | some (C.lst _) => some "list"
    | _ => none
  | _ => none
def subT (a b : String) : Bool := a == b || (a == "bool" && b == "int")
def tyNames : List String := ["NoneType", "bool", "int", "str", "tuple", "list"]
def clNames : List String := ["int", "str", "bool", "list", "tuple", "dict"]
theorem kitB_sub : ∀ a ∈ tyNames, ∀ b ∈ clNames, kitB a b = some (subT a b) := by decide +kernel
theorem tyD_ok {K fr m Hc S H} (z : Zh K fr m Hc S H) {d : D} {v : V} {t : String} (r : Rep K Hc m d v) (e : tyD d S = some t) : TyX K H v (.type t) ∧ t ∈ tyNames := by
  cases d with
  | non => cases r; cases e; exact ⟨.base .non, by decide⟩
  | bl b => cases r; cases e; exact ⟨.base (.bl b), by decide⟩
  | int b => cases r; cases e; exact ⟨.base (.int b), by decide⟩
  | str b => cases r; cases e; exact ⟨.base (.str b), by decide⟩
  | tup ds => obtain ⟨a, vs, rfl, q, _⟩ := r; cases e; exact ⟨.base (.tup (z.sub _ _ q)), by decide⟩
  | lst ds => obtain ⟨a, vs, rfl, q, _⟩ := r; cases e; exact ⟨.base (.lst (z.sub _ _ q)), by decide⟩
  | ptr n =>
    obtain ⟨a, rfl, hn⟩ := r
    unfold tyD at e
    cases h : S[n]? with
    | none => simp [h] at e
    | some c =>
      cases c with
      | gone => simp [h] at e
      | dct ks0 ds0 => simp [h] at e
      | lst ds =>
        simp [h] at e
        subst e
        obtain ⟨_, vs, h1, _⟩ := z.cel n a _ hn h
        exact ⟨.base (.lst h1), by decide⟩
  | _ => cases e
def zIsi (ns : List String) (a : EM D) : EM D := fun env S => (a env S).bnd fun x S1 => match tyD x S1 with
  | some t => .ok (.bl (ns.any (subT t))) S1
  | none => .stk
theorem kitAny_sub {K : PySem.W.Frag} {t : String} (ht : t ∈ tyNames) : ∀ {ns : List String}, (∀ n ∈ ns, n ∈ clNames) → PySem.W.kitAny K (.type t) (ns.map Value.type) = some (ns.any (subT t))
  | [], _ => rfl
  | n :: ns, h => by
    have h1 : PySem.W.kitOne K (.type t) (.type n) = some (subT t n) := kit_ty (kitB_sub t ht n (h n List.mem_cons_self))
    rw [List.map_cons]
    refine kitAny_cons h1 (fun e => ?_) (fun e => ?_)
    · rw [List.any_cons, e, Bool.false_or]
      exact kitAny_sub ht fun k hk => h k (List.mem_cons_of_mem _ hk)
    · rw [List.any_cons, e, Bool.true_or]
section
variable {X : Cx} {W : WX} {p pos p1 p2 tpos : Pos} {a : Expr} {ta : TE} {fa : EM D} {i1 : Str} {tk : Nat}
theorem zc_ty {T : String} {x : Str} (hg : Gl X x) (hm : X.mg x = none) (hv : bootBuiltins x = some (.type T)) (hn : x ≠ "__name__" := by decide) (hd : (x == ("__debug__" : Str)) = false := by decide) : ZE X W (.Name x pos) (tC (.ty T)) (zC (.ty T)) :=
  zc_of (pe_bltn hg hm hv rfl hn hd) fun _ _ => rfl
/-- isinstance(x, T) -/
theorem ze_isi [Hot] {T : String} {x : Str} (hg : Gl X "isinstance") (hm : X.mg "isinstance" = none) (hmT : X.mg x = none) (hvT : bootBuiltins x = some (.type T)) (ha : ZE X W a ta fa) (hgT : Gl X x := by rfl) (hT : T ∈ clNames := by decide) (hnT : x ≠ "__name__" := by decide) (hdT : (x == ("__debug__" : Str)) = false := by decide)
    (he : starEach [a, .Name x p1] X.env = (false, eval a X.env) :: starEach [.Name x p1] X.env := by rfl) (he2 : starEach [.Name x p1] X.env = (false, eval (.Name x p1) X.env) :: starEach [] X.env := by rfl) (hpl : (backTo pos (starEach [.Name x p1] X.env)).any (·.1) = false := by rfl) :
    ZE X W (.Call (.Name "isinstance" p) [a, .Name x p1] [] pos) (tCB (rIsi X.K) (tCons ta (tCons (tC (.ty T)) tNil))) (zIsi [T] fa) := by
  refine ⟨pe_callB call_isi hg hm (by decide +kernel) (pa_cons ha.pe (pa_cons (pe_bltn hgT hmT hvT rfl hnT hdT) pa_nil he2) he) (by decide) (by decide) he hpl, ?_⟩
  intro fr m Hc env S σ H Q z zz q
  refine ha.sd fr m Hc env S σ H _ z zz (q.bnd fun x S1 v m1 Hc1 H1 x1 z1 r1 q1 => ?_)
  cases e : tyD x S1 with
  | none => simp [e] at q1; exact q1.elim
  | some t =>
    simp only [e] at q1
    obtain ⟨h1, h2⟩ := tyD_ok z1 r1 e
    refine ⟨v, .ty T, .type t, .type T, subT t T, rfl, .ty T, h1, kit_ty (kitB_sub t h2 T hT), ?_⟩
    have e2 : [T].any (subT t) = subT t T := by simp
    rw [e2] at q1
    exact q1.use z1 rfl
/-- isinstance(x, (T, U)) -/
theorem ze_isi2 [Hot] {T U : String} {x y : Str} (hg : Gl X "isinstance") (hm : X.mg "isinstance" = none) (hmT : X.mg x = none) (hmU : X.mg y = none) (hvT : bootBuiltins x = some (.type T)) (hvU : bootBuiltins y = some (.type U)) (ha : ZE X W a ta fa) (hgT : Gl X x := by rfl) (hgU : Gl X y := by rfl)
    (hT : T ∈ clNames := by decide) (hU : U ∈ clNames := by decide) (hnT : x ≠ "__name__" := by decide) (hdT : (x == ("__debug__" : Str)) = false := by decide) (hnU : y ≠ "__name__" := by decide) (hdU : (y == ("__debug__" : Str)) = false := by decide)
    (he : starEach [a, .Tuple [.Name x p1, .Name y p2] tk tpos] X.env = (false, eval a X.env) :: starEach [.Tuple [.Name x p1, .Name y p2] tk tpos] X.env := by rfl) (he2 : starEach [.Tuple [.Name x p1, .Name y p2] tk tpos] X.env = (false, eval (.Tuple [.Name x p1, .Name y p2] tk tpos) X.env) :: starEach [] X.env := by rfl)
    (he3 : starEach [.Name x p1, .Name y p2] X.env = (false, eval (.Name x p1) X.env) :: starEach [.Name y p2] X.env := by rfl) (he4 : starEach [.Name y p2] X.env = (false, eval (.Name y p2) X.env) :: starEach [] X.env := by rfl)
    (hpl : (backTo pos (starEach [.Tuple [.Name x p1, .Name y p2] tk tpos] X.env)).any (·.1) = false := by rfl) :
    ZE X W (.Call (.Name "isinstance" p) [a, .Tuple [.Name x p1, .Name y p2] tk tpos] [] pos) (tCB (rIsiT X.K) (tCons ta (tCons (tTup (tCons (tC (.ty T)) (tCons (tC (.ty U)) tNil))) tNil))) (zIsi [T, U] fa) := by
  refine ⟨pe_callB call_isiT hg hm (by decide +kernel) (pa_cons ha.pe (pa_cons (pe_tup (pa_cons (pe_bltn hgT hmT hvT rfl hnT hdT) (pa_cons (pe_bltn hgU hmU hvU rfl hnU hdU) pa_nil he4) he3)) pa_nil he2) he) (by decide) (by decide) he hpl, ?_⟩
  intro fr m Hc env S σ H Q z zz q
  refine ha.sd fr m Hc env S σ H _ z zz (q.bnd fun x S1 v m1 Hc1 H1 x1 z1 r1 q1 => ?_)
  cases e : tyD x S1 with
  | none => simp [e] at q1; exact q1.elim
  | some t =>
    simp only [e] at q1
    refine ⟨by show 2 ≤ sizeLine; decide, fun tp hp => ?_⟩
    obtain ⟨z2, x2⟩ := z1.new (o := .tup [.ty T, .ty U]) hp
    obtain ⟨h1, h2⟩ := tyD_ok z2 (Rep.mono x2 _ _ r1) e
    exact ⟨v, tp, _, .type t, [.type T, .type U], _, rfl, upd_same, .cons (.ty T) (.cons (.ty U) .nil), h1, kitAny_sub (ns := [T, U]) h2 (by simp [hT, hU]), (Pst.mono x2 q1).use z2 rfl⟩
end

/-! ### sorted of pairs of ints -/
def pairOf : D → Option (Int × Int)
  | .tup [.int i, .int j] => some (i, j)
  | _ => none
def pairD (p : Int × Int) : D := .tup [.int p.1, .int p.2]
theorem pairOf_D (p : Int × Int) : pairOf (pairD p) = some p := rfl
theorem pairOf_some {d : D} {p : Int × Int} (h : pairOf d = some p) : d = pairD p := by
  unfold pairOf at h
  split at h
  · cases h; rfl
  · cases h
def pairsOf : List D → Option (List (Int × Int))
  | [] => some []
  | d :: ds => match pairOf d, pairsOf ds with
    | some p, some ps => some (p :: ps)
    | _, _ => none
theorem pairsOf_map : ∀ ps : List (Int × Int), pairsOf (ps.map pairD) = some ps
  | [] => rfl
  | p :: ps => by rw [List.map_cons]; unfold pairsOf; rw [pairOf_D, pairsOf_map ps]
theorem pairsOf_some : ∀ {ds : List D} {ps : List (Int × Int)}, pairsOf ds = some ps → ds = ps.map pairD
  | [], ps, h => by cases h; rfl
  | d :: ds, ps, h => by
    unfold pairsOf at h
    cases h1 : pairOf d with
    | none => simp [h1] at h
    | some p =>
      cases h2 : pairsOf ds with
      | none => simp [h1, h2] at h
      | some qs =>
        simp [h1, h2] at h
        subst h
        rw [List.map_cons, pairOf_some h1, pairsOf_some h2]
def insP (p : Int × Int) : List (Int × Int) → List (Int × Int)
  | [] => [p]
  | q :: r => if SrtO.lexB q p = true then q :: insP p r else p :: q :: r
def sortP : List (Int × Int) → List (Int × Int)
  | [] => []
  | p :: r => insP p (sortP r)
def dSorted (xs : List D) (S : Sto) : Rs D := match xs with
  | [d] => match seqOf d S with
    | some ds => match pairsOf ds with
      | some ps => .ok (.lst ((sortP ps).map pairD)) S
      | none => .stk
    | none => .stk
  | _ => .stk
theorem lexO : SrtO.Swo SrtO.lexB := by
  constructor
  · intro p q lt
    have := SrtO.lexB_iff.mp lt
    exact SrtO.lexB_no.mpr (by omega)
  · intro p q r le1 le2
    have := SrtO.lexB_no.mp le1
    have := SrtO.lexB_no.mp le2
    exact SrtO.lexB_no.mpr (by omega)
theorem insP_perm (p : Int × Int) : ∀ l : List (Int × Int), (insP p l).Perm (p :: l)
  | [] => .refl _
  | q :: r => by
    unfold insP
    split
    · exact ((insP_perm p r).cons q).trans (.swap p q r)
    · exact .refl _
theorem sortP_perm : ∀ l : List (Int × Int), (sortP l).Perm l
  | [] => .refl _
  | p :: r => (insP_perm p _).trans ((sortP_perm r).cons p)
theorem insP_srt (p : Int × Int) : ∀ l : List (Int × Int), l.Pairwise (fun x y => SrtO.lexB y x = false) → (insP p l).Pairwise (fun x y => SrtO.lexB y x = false)
  | [], _ => by simp [insP]
  | q :: r, h => by
    obtain h' := List.pairwise_cons.mp h
    unfold insP
    split
    · rename_i e
      refine List.pairwise_cons.mpr ⟨fun y hy => ?_, insP_srt p r h'.2⟩
      rcases List.mem_cons.mp ((insP_perm p r).mem_iff.mp hy) with rfl | hy
      · have a := SrtO.lexB_iff.mp e
        refine SrtO.lexB_no.mpr ?_
        omega
      · exact h'.1 y hy
    · rename_i e
      have e' : SrtO.lexB q p = false := by simpa using e
      refine List.pairwise_cons.mpr ⟨fun y hy => ?_, h⟩
      rcases List.mem_cons.mp hy with rfl | hy2
      · exact e'
      · have a := SrtO.lexB_no.mp e'
        have b := SrtO.lexB_no.mp (h'.1 y hy2)
        refine SrtO.lexB_no.mpr ?_
        omega
theorem sortP_srt : ∀ l : List (Int × Int), (sortP l).Pairwise (fun x y => SrtO.lexB y x = false)
  | [] => List.Pairwise.nil
  | p :: r => insP_srt p _ (sortP_srt r)
theorem lex_anti {x y : Int × Int} (h1 : SrtO.lexB x y = false) (h2 : SrtO.lexB y x = false) : x = y := by
  have a := SrtO.lexB_no.mp h1
  have b := SrtO.lexB_no.mp h2
  obtain ⟨x1, x2⟩ := x
  obtain ⟨y1, y2⟩ := y
  simp only at a b
  have e1 : x1 = y1 := by omega
  have e2 : x2 = y2 := by omega
  rw [e1, e2]
theorem srt_uniq : ∀ {l m : List (Int × Int)}, l.Perm m → l.Pairwise (fun x y => SrtO.lexB y x = false) → m.Pairwise (fun x y => SrtO.lexB y x = false) → l = m
  | [], m, h, _, _ => by rw [List.nil_perm.mp h]
  | x :: l, [], h, _, _ => (List.perm_nil.mp h)
  | x :: l, y :: m, h, h1, h2 => by
    have a := List.pairwise_cons.mp h1
    have b := List.pairwise_cons.mp h2
    have e : x = y := by
      rcases List.mem_cons.mp (h.mem_iff.mp List.mem_cons_self) with e | hx
      · exact e
      · rcases List.mem_cons.mp (h.mem_iff.mpr List.mem_cons_self) with e | hy
        · exact e.symm
        · exact lex_anti (b.1 x hx) (a.1 y hy)
    subst e
    rw [srt_uniq h.cons_inv a.2 b.2]
theorem reps_pairs {K Hc m} : ∀ {ps : List (Int × Int)} {vs : List V}, Reps K Hc m (ps.map pairD) vs → ∃ as : List Addr, vs = as.map V.ref ∧ as.length = ps.length ∧ ∀ (i : Nat) (a : Addr) (p : Int × Int), as[i]? = some a → ps[i]? = some p → Hc a = some (.tup [.int p.1, .int p.2])
  | [], _, h => by cases h; exact ⟨[], rfl, rfl, fun i a p h => by simp at h⟩
  | p :: ps, _, ⟨v, r, e, ⟨a, us, e1, h1, u, us', e2, h2, u2, us2, e3, h3, h4⟩, h5⟩ => by
    obtain ⟨as, g1, g2, g3⟩ := reps_pairs h5
    cases h2; cases h3; cases h4
    subst e e1 e2 e3
    refine ⟨a :: as, by rw [g1]; rfl, by simp [g2], fun i b q hb hq => ?_⟩
    cases i with
    | zero => simp at hb hq; subst hb; subst hq; exact h1
    | succ i => exact g3 i b q (by simpa using hb) (by simpa using hq)
theorem reps_of_pairs {K Hc m} : ∀ {ys : List V} {k : V → Int × Int}, (∀ y ∈ ys, ∃ t, y = V.ref t ∧ Hc t = some (.tup [.int (k y).1, .int (k y).2])) → Reps K Hc m ((ys.map k).map pairD) ys
  | [], _, _ => rfl
  | y :: ys, k, h => by
    obtain ⟨t, e, h1⟩ := h y List.mem_cons_self
    exact ⟨y, ys, rfl, ⟨t, _, e, h1, _, _, rfl, rfl, _, _, rfl, rfl, rfl⟩, reps_of_pairs fun z hz => h z (List.mem_cons_of_mem _ hz)⟩
theorem cs_sortedP {K mg} : CS K mg (rSortedPO K) dSorted := by
  intro fr m Hc S H xs ds w Q z r p
  unfold dSorted at p
  split at p
  · rename_i d
    obtain ⟨v, rfl, r1⟩ := r.one_of
    cases e : seqOf d S with
    | none => simp [e] at p; exact p.elim
    | some es =>
      simp only [e] at p
      cases e2 : pairsOf es with
      | none => simp [e2] at p; exact p.elim
      | some ps =>
        simp only [e2] at p
        obtain ⟨a, vs, rfl, q, rr⟩ := z.seq r1 e
        rw [pairsOf_some e2] at rr
        obtain ⟨as, rfl, hl, hh⟩ := reps_pairs rr
        -- which pair stands at an address
        let k : V → Int × Int := fun v => match v with
          | .ref t => match H t with
            | some (.tup [.int i, .int j]) => (i, j)
            | _ => (0, 0)
          | _ => (0, 0)
        have kk : ∀ (i : Nat) (a : Addr) (p : Int × Int), as[i]? = some a → ps[i]? = some p → k (.ref a) = p := fun i a p h1 h2 => by
          have := z.sub _ _ (hh i a p h1 h2)
          show (match H a with
            | some (.tup [.int i, .int j]) => (i, j)
            | _ => (0, 0)) = p
          rw [this]
        have hmap : (as.map V.ref).map k = ps := by
          apply List.ext_getElem?
          intro i
          repeat rw [List.getElem?_map]
          cases h1 : as[i]? with
          | none =>
            have : ps[i]? = none := by rw [List.getElem?_eq_none_iff] at h1 ⊢; omega
            rw [this]; rfl
          | some a =>
            have hi : i < ps.length := by rw [← hl]; exact (List.getElem?_eq_some_iff.mp h1).1
            have h2 : ps[i]? = some ps[i] := List.getElem?_eq_getElem hi
            rw [h2]
            show some (k (.ref a)) = _
            rw [kk i a _ h1 h2]
        have hx : ∀ x ∈ as.map V.ref, ∃ t, x = V.ref t ∧ Hc t = some (.tup [.int (k x).1, .int (k x).2]) := fun x hx => by
          obtain ⟨a, ha, rfl⟩ := List.mem_map.mp hx
          obtain ⟨i, hi⟩ := List.getElem?_of_mem ha
          have hi2 : i < ps.length := by rw [← hl]; exact (List.getElem?_eq_some_iff.mp hi).1
          have h2 : ps[i]? = some ps[i] := List.getElem?_eq_getElem hi2
          refine ⟨a, rfl, ?_⟩
          rw [kk i a _ hi h2]
          exact hh i a _ hi h2
        refine ⟨a, as.map V.ref, k, rfl, q, fun x hx' => ?_, fun ys pp hs hst hp => p.useN z hp ?_⟩
        · obtain ⟨t, e, h⟩ := hx x hx'
          exact ⟨t, e, z.sub _ _ h⟩
        · have hperm : (ys.map k).Perm ps := by rw [← hmap]; exact hst.perm.map k
          have hsrt : (ys.map k).Pairwise (fun x y => SrtO.lexB y x = false) := List.pairwise_map.mpr (List.Pairwise.imp (fun h => h) hs)
          have heq : ys.map k = sortP ps := srt_uniq (hperm.trans (sortP_perm ps).symm) hsrt (sortP_srt ps)
          rw [← heq]
          have hm : ∀ y ∈ ys, ∃ t, y = V.ref t ∧ Hc t = some (.tup [.int (k y).1, .int (k y).2]) := fun y hy => hx y (hst.perm.mem_iff.mp hy)
          exact ⟨pp, ys, rfl, upd_same, Reps.mono (z.new hp).2 _ _ (reps_of_pairs hm)⟩
  · exact p.elim

/-! ### ranges as values -/
def dRange1 (xs : List D) (S : Sto) : Rs D := match xs with
  | [.int j] => .ok (.rng 0 j) S
  | _ => .stk
def dRange2 (xs : List D) (S : Sto) : Rs D := match xs with
  | [.int i, .int j] => .ok (.rng i j) S
  | _ => .stk
theorem cr_range1 {X : Cx} : CallR X (.type "range") (fun vs H Q => ∃ j, vs = [V.int j] ∧ ∀ p, H p = none → Q (.ref p) (upd H p (.rng 0 j))) := by
  intro ps s σ H vs us Q I r h
  obtain ⟨j, rfl, q⟩ := h
  obtain ⟨u1, rfl, rj⟩ := vals1 r
  obtain ⟨u, rfl⟩ := rj
  refine call_range_1 ⟨.ref s.heap.objs.size, upd H s.heap.objs.size (.rng 0 j), I.laid (t' := _) (fun b o e => Heap.get?_push_of_some _ e) (Nat.le_refl _) ?_, rfl, q _ (I.hok.fresh (Nat.le_refl _))⟩
  exact ⟨_, u, _, Heap.get?_push_size _ rfl⟩
theorem cs_range1 {K mg} : CS K mg (fun vs H Q => ∃ j, vs = [V.int j] ∧ ∀ p, H p = none → Q (.ref p) (upd H p (.rng 0 j))) dRange1 := by
  intro fr m Hc S H xs ds w Q z r p
  unfold dRange1 at p
  split at p
  · obtain ⟨v, rfl, r1⟩ := r.one_of
    cases r1
    exact ⟨_, rfl, fun q hq => p.useN z hq ⟨q, rfl, upd_same⟩⟩
  · exact p.elim
theorem cs_range2 {K mg} : CS K mg (fun vs H Q => ∃ i j, vs = [V.int i, V.int j] ∧ ∀ p, H p = none → Q (.ref p) (upd H p (.rng i j))) dRange2 := by
  intro fr m Hc S H xs ds w Q z r p
  unfold dRange2 at p
  split at p
  · obtain ⟨v, w, rfl, r1, r2⟩ := r.two_of
    cases r1; cases r2
    exact ⟨_, _, rfl, fun q hq => p.useN z hq ⟨q, rfl, upd_same⟩⟩
  · exact p.elim
end Z

namespace Z
open PySem L2
open PySem.Spec PyProof.Rows
variable [Tabs]

/-! ### calls with keywords -/
def permL {α : Type} (pm : List Nat) (l : List α) : List α := pm.filterMap fun i => l[i]?
theorem permL_len {α β : Type} (pm : List Nat) {l : List α} {r : List β} (h : l.length = r.length) : (permL pm l).length = (permL pm r).length := by
  unfold permL
  induction pm with
  | nil => rfl
  | cons i pm ih =>
    by_cases hi : i < l.length
    · rw [List.filterMap_cons_some (List.getElem?_eq_getElem hi), List.filterMap_cons_some (List.getElem?_eq_getElem (h ▸ hi))]
      simp [ih]
    · rw [List.filterMap_cons_none (List.getElem?_eq_none (by omega)), List.filterMap_cons_none (List.getElem?_eq_none (by omega))]
      exact ih
theorem permL_vals (pm : List Nat) {vs : List V} {us : List Value} (r : Vals vs us) : Vals (permL pm vs) (permL pm us) := by
  unfold permL
  induction pm with
  | nil => exact .nil
  | cons i pm ih =>
    cases h : vs[i]? with
    | none =>
      rw [List.filterMap_cons_none h, List.filterMap_cons_none (r.none_of h)]
      exact ih
    | some v =>
      obtain ⟨u, h1, h2⟩ := r.get h
      rw [List.filterMap_cons_some h, List.filterMap_cons_some h1]
      exact .cons h2 ih
theorem permL_reps {K Hc m} (pm : List Nat) {ds : List D} {vs : List V} (r : Reps K Hc m ds vs) : Reps K Hc m (permL pm ds) (permL pm vs) := by
  unfold permL
  induction pm with
  | nil => rfl
  | cons i pm ih =>
    by_cases hi : i < ds.length
    · have h : ds[i]? = some ds[i] := List.getElem?_eq_getElem hi
      obtain ⟨v, h1, h2⟩ := r.get h
      rw [List.filterMap_cons_some h, List.filterMap_cons_some h1]
      exact ⟨v, _, rfl, h2, ih⟩
    · rw [List.filterMap_cons_none (List.getElem?_eq_none (by omega)), List.filterMap_cons_none (List.getElem?_eq_none (by rw [r.length]; omega))]
      exact ih
structure ZK [Hot] (X : Cx) (W : WX) (kws : List Keyword) (t : TA) (f : EM (List D)) : Prop where
  pk : PK X kws t
  sd : SA X.K X.mg W t f
  ar : Arity f kws.length
def tCallKZ (n l : Nat) (pm : List Nat) (sp : Sp) (E : L2.St → XK) (t tk : TA) : TE := fun σ H Q => t σ H fun vs H1 => tk σ H1 fun zs H2 => vs.length = n ∧ zs.length = l ∧ sp (permL pm (vs ++ zs)) H2 Q (E σ)
def zCallK (n : Nat) (F : List D → Sto → Rs D) (pm : List Nat) (a k : EM (List D)) : EM D := fun env S => (a env S).bnd fun xs S1 => (k env S1).bnd fun zs S2 => if (permL pm (xs ++ zs)).length = n then F (permL pm (xs ++ zs)) S2 else .stk
section
variable {X : Cx} {W : WX} {pos p kpos : Pos} {x : Str} {nm : Option Str} {e : Expr} {es : List Expr} {kws : List Keyword} {te : TE} {fe : EM D} {t tkk : TA} {f fk : EM (List D)}
theorem zk_nil [Hot] : ZK X W [] tNil zNil := ⟨pk_nil, fun fr m Hc env S σ H Q z zz p => p.use z rfl, ar_nil⟩
theorem zk_cons [Hot] (he : ZE X W e te fe) (hs : ZK X W kws t f) : ZK X W (⟨nm, e, kpos⟩ :: kws) (tCons te t) (zCons fe f) := by
  refine ⟨pk_cons he.pe hs.pk, ?_, ar_cons hs.ar⟩
  intro fr m Hc env S σ H Q z zz p
  refine he.sd fr m Hc env S σ H _ z zz (p.bnd fun x S1 v m1 Hc1 H1 x1 z1 r1 p1 => ?_)
  refine hs.sd fr m1 Hc1 env S1 σ H1 _ z1 (Ze.mono x1 zz) (p1.bnd fun xs S2 vs m2 Hc2 H2 x2 z2 r2 p2 => ?_)
  exact p2.use z2 ⟨v, vs, rfl, Rep.mono x2 _ _ r1, r2⟩
theorem run_fnKZ {pins : List (Addr × Obj)} {σ : L2.St} {H : Hp} {s : Shared} {Q : VK} {us ws : List Value} {vs zs : List V} {k n : Nat} {pm : List Nat} {ps ks : List Str} {fa : Addr} {fd : FuncData} {sp : Sp} {E : L2.St → XK} (F : FnOk X.prog X.w X.K X.mg X.base (L2.CX X.prog X.w) k fa fd ps sp) (hr : Room k X.A)
    (hto : ∀ (s : Shared) (us ws : List Value), us.length = n → ws.length = ks.length → BindsTo s fd ⟨us, ks.zip ws⟩ (ps.zip (permL pm (us ++ ws)))) (hx : PassesAt (L2.CX X.prog X.w) X σ (E σ))
    (I : Inv X pins σ H s) (r : Vals vs us) (rz : Vals zs ws) (l1 : vs.length = n) (l2 : zs.length = ks.length) (h : sp (permL pm (vs ++ zs)) H Q (E σ)) : wpAny (model X.prog X.w) X.A (call (.ref fa) us (ks.zip ws)) (EP X pins σ Q) X.xe s := by
  have r2 : Vals (permL pm (vs ++ zs)) (permL pm (us ++ ws)) := permL_vals pm (r.append rz)
  refine wpAny_call (codeAny_mono (F.run X.A X.stack s H ⟨us, ks.zip ws⟩ _ _ Q (E σ) hr I.env0 (hto s us ws (r.length.symm.trans l1) (rz.length.symm.trans l2)) r2 h) fun r s' hq => ?_)
  cases r with
  | error er => exact hx pins H s er s' I hq
  | ok fl =>
    cases fl with
    | ret u => exact I.after hq
    | next => exact False.elim hq
    | brk => exact False.elim hq
    | cont => exact False.elim hq
theorem pe_callKZ {k n : Nat} {pm : List Nat} {ps ks : List Str} {fa : Addr} {fd : FuncData} {sp : Sp} {E : L2.St → XK} (F : FnOk X.prog X.w X.K X.mg X.base (L2.CX X.prog X.w) k fa fd ps sp) (hr : Room k X.A) (hg : Gl X x) (hm : X.mg x = some (.ref fa)) (hk : PySem.W.keepIn X.K (.ref fa) = true)
    (hto : ∀ (s : Shared) (us ws : List Value), us.length = n → ws.length = ks.length → BindsTo s fd ⟨us, ks.zip ws⟩ (ps.zip (permL pm (us ++ ws)))) (hx : ∀ σ, PassesAt (L2.CX X.prog X.w) X σ (E σ))
    (ha : PA X (e :: es) t) (hkw : PK X kws tkk) (hall : (backToKw pos (keywordEach kws X.env)).all (·.1.isSome) = true) (hks : (backToKw pos (keywordEach kws X.env)).filterMap (·.1) = ks)
    (hdb : (x == ("__debug__" : Str)) = false) (he : starEach (e :: es) X.env = (false, eval e X.env) :: starEach es X.env)
    (hpl : ((backTo pos (starEach (e :: es) X.env)).any (·.1) || (backToKw pos (keywordEach kws X.env)).any (·.1.isNone)) = false) :
    PE X (.Call (.Name x p) (e :: es) kws pos) (tCallKZ n ks.length pm sp E t tkk) := by
  refine ⟨fun ps s σ H Q inv d => wpAny_Call_Name_kw (ld_glob inv hg hm ?_ hdb)⟩
  refine PySem.W.callWith_KW (h₀ := X.base) inv.ok.mod.kin hk hall (thn (ha.run pos ps s σ H _ inv d) fun us s1 ⟨vs, H1, I1, r, q⟩ => ?_) hpl he
  refine thn (hkw.run pos ps s1 σ H1 _ I1 q) fun ws s2 ⟨zs, H2, I2, rz, l1, l2, q2⟩ => ⟨I2.kIn, ?_⟩
  exact hks ▸ run_fnKZ F hr hto (hx σ) I2 r rz l1 l2 q2
theorem pe_callKZ0 {k : Nat} {pm : List Nat} {ps ks : List Str} {fa : Addr} {fd : FuncData} {sp : Sp} {E : L2.St → XK} (F : FnOk X.prog X.w X.K X.mg X.base (L2.CX X.prog X.w) k fa fd ps sp) (hr : Room k X.A) (hg : Gl X x) (hm : X.mg x = some (.ref fa)) (hk : PySem.W.keepIn X.K (.ref fa) = true)
    (hto : ∀ (s : Shared) (us ws : List Value), us.length = 0 → ws.length = ks.length → BindsTo s fd ⟨us, ks.zip ws⟩ (ps.zip (permL pm (us ++ ws)))) (hx : ∀ σ, PassesAt (L2.CX X.prog X.w) X σ (E σ))
    (hkw : PK X kws tkk) (hall : (backToKw pos (keywordEach kws X.env)).all (·.1.isSome) = true) (hks : (backToKw pos (keywordEach kws X.env)).filterMap (·.1) = ks)
    (hdb : (x == ("__debug__" : Str)) = false) (hpl : ((backTo pos (starEach [] X.env)).any (·.1) || (backToKw pos (keywordEach kws X.env)).any (·.1.isNone)) = false) :
    PE X (.Call (.Name x p) [] kws pos) (tCallKZ 0 ks.length pm sp E tNil tkk) := by
  refine ⟨fun ps s σ H Q inv d => wpAny_Call_Name_kw (ld_glob inv hg hm ?_ hdb)⟩
  refine PySem.W.callWith_KW0 (h₀ := X.base) inv.ok.mod.kin hk hall (thn (hkw.run pos ps s σ H _ inv d) fun ws s2 ⟨zs, H2, I2, rz, l1, l2, q2⟩ => ⟨I2.kIn, ?_⟩) hpl
  exact hks ▸ run_fnKZ (us := []) (vs := []) F hr hto (hx σ) I2 .nil rz rfl l2 q2
theorem fun_to {K : PySem.W.Frag} {x : Str} {st : Stmt} {ps : List Str} {fa : Addr} {fd : FuncData} (n : Nat) (ks : List Str) (pm : List Nat) (hF : Fun K x x st fa fd)
    (hb : ∀ (kV doc pmv : Value) (an : Option Addr) (cdv ct : Value) (us ws : List Value), us.length = n → ws.length = ks.length → bindArgs (PySem.W.fnOf x x (defArgs st) (defBody st) (defScope st) .none kV doc pmv an cdv ct) ⟨us, ks.zip ws⟩ = pure (ps.zip (permL pm (us ++ ws)))) :
    ∀ (s : Shared) (us ws : List Value), us.length = n → ws.length = ks.length → BindsTo s fd ⟨us, ks.zip ws⟩ (ps.zip (permL pm (us ++ ws))) := by
  obtain ⟨oc, od, kV, doc, pmv, an, cdv, ct, osl, rfl, lk, hcd⟩ := hF.ex
  exact fun s us ws h1 h2 => .of_eq (hb kV doc pmv an cdv ct us ws h1 h2)
theorem ze_callK [Hot] {pm : List Nat} {ks : List Str} {k : Nat} {st : Stmt} {ps : List Str} {F : List D → Sto → Rs D} (h : FZ X.prog X.w X.K X.mg X.base k x st ps F) (hr : Room k X.A) (hg : Gl X x) (tk : Takes X W)
    (hb : ∀ (kV doc pmv : Value) (an : Option Addr) (cdv ct : Value) (us ws : List Value), us.length = (e :: es).length → ws.length = ks.length → bindArgs (PySem.W.fnOf x x (defArgs st) (defBody st) (defScope st) .none kV doc pmv an cdv ct) ⟨us, ks.zip ws⟩ = pure (ps.zip (permL pm (us ++ ws))))
    (ha : ZA X W (e :: es) t f) (hkw : ZK X W kws tkk fk) (hkl : kws.length = ks.length := by rfl)
    (hall : (backToKw pos (keywordEach kws X.env)).all (·.1.isSome) = true := by rfl) (hks : (backToKw pos (keywordEach kws X.env)).filterMap (·.1) = ks := by rfl)
    (hdb : (x == ("__debug__" : Str)) = false := by decide)
    (he : starEach (e :: es) X.env = (false, eval e X.env) :: starEach es X.env := by rfl)
    (hpl : ((backTo pos (starEach (e :: es) X.env)).any (·.1) ||
      (backToKw pos (keywordEach kws X.env)).any (·.1.isNone)) = false := by rfl) :
    ZE X W (.Call (.Name x p) (e :: es) kws pos) (tCallKZ (e :: es).length ks.length pm (zSp X.K X.mg ps.length F) (WE W) t tkk) (zCallK ps.length F pm f fk) := by
  obtain ⟨fa, fd, gm, hF, _, ok⟩ := h.ex
  refine ⟨pe_callKZ ok hr hg gm hF.kp (fun_to (e :: es).length ks pm hF hb) (fun σ => passAt tk σ) ha.pa hkw.pk hall hks hdb he hpl, ?_⟩
  intro fr m Hc env S σ H Q z zz p
  refine ha.sd fr m Hc env S σ H _ z zz (p.bndE fun xs S1 vs m1 Hc1 H1 e1 x1 z1 r1 p1 => ?_)
  refine hkw.sd fr m1 Hc1 env S1 σ H1 _ z1 (Ze.mono x1 zz) (p1.bndE fun zs S2 ws m2 Hc2 H2 e2 x2 z2 r2 p2 => ?_)
  refine ⟨by rw [r1.length]; exact ha.ar _ _ _ _ e1, by rw [r2.length, ← hkl]; exact hkw.ar _ _ _ _ e2, ?_⟩
  have rr := permL_reps pm ((Reps.mono x2 _ _ r1).append r2)
  by_cases hl : (permL pm (xs ++ zs)).length = ps.length
  · rw [if_pos hl] at p2
    exact ⟨by rw [rr.length]; exact hl, fr, m2, Hc2, S2, _, z2, rr, p2⟩
  · rw [if_neg hl] at p2; exact p2.elim
theorem ze_callK0 [Hot] {pm : List Nat} {ks : List Str} {k : Nat} {st : Stmt} {ps : List Str} {F : List D → Sto → Rs D} (h : FZ X.prog X.w X.K X.mg X.base k x st ps F) (hr : Room k X.A) (hg : Gl X x) (tk : Takes X W)
    (hb : ∀ (kV doc pmv : Value) (an : Option Addr) (cdv ct : Value) (us ws : List Value), us.length = 0 → ws.length = ks.length → bindArgs (PySem.W.fnOf x x (defArgs st) (defBody st) (defScope st) .none kV doc pmv an cdv ct) ⟨us, ks.zip ws⟩ = pure (ps.zip (permL pm (us ++ ws))))
    (hkw : ZK X W kws tkk fk) (hkl : kws.length = ks.length := by rfl)
    (hall : (backToKw pos (keywordEach kws X.env)).all (·.1.isSome) = true := by rfl) (hks : (backToKw pos (keywordEach kws X.env)).filterMap (·.1) = ks := by rfl)
    (hdb : (x == ("__debug__" : Str)) = false := by decide) (hpl : ((backTo pos (starEach [] X.env)).any (·.1) || (backToKw pos (keywordEach kws X.env)).any (·.1.isNone)) = false := by rfl) :
    ZE X W (.Call (.Name x p) [] kws pos) (tCallKZ 0 ks.length pm (zSp X.K X.mg ps.length F) (WE W) tNil tkk) (zCallK ps.length F pm zNil fk) := by
  obtain ⟨fa, fd, gm, hF, _, ok⟩ := h.ex
  refine ⟨pe_callKZ0 ok hr hg gm hF.kp (fun_to 0 ks pm hF hb) (fun σ => passAt tk σ) hkw.pk hall hks hdb hpl, ?_⟩
  intro fr m Hc env S σ H Q z zz p
  show tCallKZ 0 ks.length pm (zSp X.K X.mg ps.length F) (WE W) tNil tkk σ H Q
  have p : Pst X.K X.mg fr (fun Hc m d v => Rep X.K Hc m d v) m Hc (fun c o H => W c o σ H) Q ((fk env S).bnd fun zs S2 => if (permL pm ([] ++ zs)).length = ps.length then F (permL pm ([] ++ zs)) S2 else .stk) := p
  refine hkw.sd fr m Hc env S σ H _ z zz (p.bndE fun zs S2 ws m2 Hc2 H2 e2 x2 z2 r2 p2 => ?_)
  refine ⟨rfl, by rw [r2.length, ← hkl]; exact hkw.ar _ _ _ _ e2, ?_⟩
  have rr := permL_reps pm r2
  rw [List.nil_append] at p2
  by_cases hl : (permL pm zs).length = ps.length
  · rw [if_pos hl] at p2
    exact ⟨by rw [List.nil_append, rr.length]; exact hl, fr, m2, Hc2, S2, _, z2, rr, p2⟩
  · rw [if_neg hl] at p2; exact p2.elim
end
theorem ze_const [Hot] {X : Cx} {W : WX} {pos : Pos} {x : Str} {i : Int} (hg : Gl X x) (hm : ∃ t, X.mg x = some (.int i t)) (hd : (x == ("__debug__" : Str)) = false := by decide) : ZE X W (.Name x pos) (tC (.int i)) (zC (.int i)) := by
  obtain ⟨t, h⟩ := hm
  exact zc_of (pe_glob hg h ⟨t, rfl⟩ hd) fun _ _ => rfl
/-! ### the built-in names that no def of the program has -/
structure Bi (mg : Mg) : Prop where
  len : mg "len" = none
  range : mg "range" = none
  enumerate : mg "enumerate" = none
  abs : mg "abs" = none
  int : mg "int" = none
  bool : mg "bool" = none
  tuple : mg "tuple" = none
  list : mg "list" = none
  str : mg "str" = none
  dict : mg "dict" = none
  isinstance : mg "isinstance" = none
  sorted : mg "sorted" = none
  min : mg "min" = none
  max : mg "max" = none
  reversed : mg "reversed" = none
  any : mg "any" = none
  all : mg "all" = none
  sum : mg "sum" = none
  zip : mg "zip" = none
theorem FZ.mono {P w K mg base} {j k : Nat} {x : Str} {st : Stmt} {ps : List Str} {F : List D → Sto → Rs D} (h : FZ P w K mg base j x st ps F) (hl : j ≤ k) : FZ P w K mg base k x st ps F := by
  obtain ⟨fa, fd, gm, hF, hb, ok⟩ := h.ex
  exact ⟨fa, fd, gm, hF, hb, ok.mono hl⟩
theorem or_sorted {X : Cx} : CallR X (.builtin "sorted") (rSortedPO X.K) := cr_sortedPO
theorem cs_sorted {K mg} : CS K mg (rSortedPO K) dSorted := cs_sortedP
end Z

namespace Z
open PySem L2
open PySem.Spec PyProof.Rows
variable [Tabs]
/-! the same rules with the written part told by its name (in a comprehension's block) -/
section
variable {X : Cx} {K : PySem.W.Frag} {mg : Mg} {W : WX} {pos p p1 p2 tpos apos cpos kpos : Pos} {tg a b e o i : Expr} {es elts : List Expr} {kk tk : Nat} {lo hi : Option Expr} {ta tb te to ti : TE} {fa fb fe fo fi : EM D} {t tkk : TA} {f fk : EM (List D)} {tl th : TO} {fl fh : EO} {x y name : Str} {id T U : String}
theorem kze_ix [Hot] (hK : X.K = K) (ha : ZE X W a ta fa) (hb : ZE X W b tb fb) (hs : PlainIx b := by exact fun _ _ => rfl) : ZE X W (.Subscript a b pos) (tOp (rIx K) ta tb) (zOp dIx fa fb) := by subst hK; exact ze_ix ha hb hs
theorem kzo_add [Hot] (hK : X.K = K) : ZO X (binaryOp .Add) (rAddZ K) dAdd := by subst hK; exact zo_add
theorem kzo_eq [Hot] {k : Nat} (hK : X.K = K) (hr : Room k X.A) : ZO X (compareOp .Eq) (rEqZ K) dEq := by subst hK; exact zo_eq hr
theorem kzo_ne [Hot] {k : Nat} (hK : X.K = K) (hr : Room k X.A) : ZO X (compareOp .NotEq) (rNeZ K) dNe := by subst hK; exact zo_ne hr
def tTruK (K : PySem.W.Frag) (ta : TE) : TT := fun σ H Q => ta σ H fun x H' => ∃ k, TruV K x H' k ∧ Q k H'
theorem kzt_tru [Hot] (hK : X.K = K) (ha : ZE X W a ta fa) (he : ∀ whole, isTrue a X.env whole = (do let v ← whole; standAt a.pos; holding [v] (truthy v)) := by intro _; rfl) : ZT X W a (tTruK K ta) (zTru fa) := by subst hK; exact zt_tru ha he
theorem kze_sl [Hot] (hK : X.K = K) (he : ZE X W e te fe) (hl : ZP X W lo tl fl) (hu : ZP X W hi th fh) : ZE X W (.Subscript e (.Slice lo hi none p2) pos) (tSl (rSlZ K) te tl th) (zSl fe fl fh) := by subst hK; exact ze_sl he hl hu
theorem kcall_len [Hot] (hK : X.K = K) : CallR X (.builtin "len") (rLenZ K) := by subst hK; exact call_len
def rTupOf (K : PySem.W.Frag) : List V → Hp → VK → Prop := fun xs H Q => ∃ p ys, xs = [.ref p] ∧ ((SqL K H p ys ∧ ∀ l, H l = none → Q (.ref l) (upd H l (.tup ys))) ∨ (SqT K H p ys ∧ Q (.ref p) H))
theorem kcall_tuple [Hot] (hK : X.K = K) : CallR X (.type "tuple") (rTupOf K) := by subst hK; exact call_tuple_of
theorem kcs_tuple [Hot] {K mg} : CS K mg (rTupOf K) dTuple := cs_tuple
theorem kcall_list [Hot] (hK : X.K = K) : CallR X (.type "list") (rListOf K) := by subst hK; exact call_list_of
theorem kcall_sorted [Hot] (hK : X.K = K) : CallR X (.builtin "sorted") (rSortedPO K) := by subst hK; exact cr_sortedPO
def iSrcK (K : PySem.W.Frag) (te : TE) : TI := fun σ H R => iList K te σ H R ∨ (iTup K te σ H R ∨ iRng te σ H R)
theorem kzi_src (hK : X.K = K) (he : ZE X W e te fe) : ZI X W tg e (iSrcK K te) (zSrc fe) := by subst hK; exact zi_src he
theorem kzi_enum (hK : X.K = K) (hg : Gl X "enumerate") (hm : X.mg "enumerate" = none) (ha : ZA X W [e] t f) (hs : starEach [e] X.env = [(false, eval e X.env)] := by rfl) : ZI X W (.Tuple elts kk tpos) (.Call (.Name "enumerate" p) [e] [] pos) (iEnum K t) (zEnum f) := by subst hK; exact zi_enum hg hm ha hs
theorem kze_isi [Hot] (hK : X.K = K) (hg : Gl X "isinstance") (hm : X.mg "isinstance" = none) (hmT : X.mg x = none) (hvT : bootBuiltins x = some (.type T)) (ha : ZE X W a ta fa) (hgT : Gl X x := by rfl) (hT : T ∈ clNames := by decide) (hnT : x ≠ "__name__" := by decide) (hdT : (x == ("__debug__" : Str)) = false := by decide)
    (he : starEach [a, .Name x p1] X.env = (false, eval a X.env) :: starEach [.Name x p1] X.env := by rfl) (he2 : starEach [.Name x p1] X.env = (false, eval (.Name x p1) X.env) :: starEach [] X.env := by rfl) (hpl : (backTo pos (starEach [.Name x p1] X.env)).any (·.1) = false := by rfl) :
    ZE X W (.Call (.Name "isinstance" p) [a, .Name x p1] [] pos) (tCB (rIsi K) (tCons ta (tCons (tC (.ty T)) tNil))) (zIsi [T] fa) := by subst hK; exact ze_isi hg hm hmT hvT ha hgT hT hnT hdT he he2 hpl
theorem kze_isi2 [Hot] (hK : X.K = K) (hg : Gl X "isinstance") (hm : X.mg "isinstance" = none) (hmT : X.mg x = none) (hmU : X.mg y = none) (hvT : bootBuiltins x = some (.type T)) (hvU : bootBuiltins y = some (.type U)) (ha : ZE X W a ta fa) (hgT : Gl X x := by rfl) (hgU : Gl X y := by rfl)
    (hT : T ∈ clNames := by decide) (hU : U ∈ clNames := by decide) (hnT : x ≠ "__name__" := by decide) (hdT : (x == ("__debug__" : Str)) = false := by decide) (hnU : y ≠ "__name__" := by decide) (hdU : (y == ("__debug__" : Str)) = false := by decide)
    (he : starEach [a, .Tuple [.Name x p1, .Name y p2] tk tpos] X.env = (false, eval a X.env) :: starEach [.Tuple [.Name x p1, .Name y p2] tk tpos] X.env := by rfl) (he2 : starEach [.Tuple [.Name x p1, .Name y p2] tk tpos] X.env = (false, eval (.Tuple [.Name x p1, .Name y p2] tk tpos) X.env) :: starEach [] X.env := by rfl)
    (he3 : starEach [.Name x p1, .Name y p2] X.env = (false, eval (.Name x p1) X.env) :: starEach [.Name y p2] X.env := by rfl) (he4 : starEach [.Name y p2] X.env = (false, eval (.Name y p2) X.env) :: starEach [] X.env := by rfl)
    (hpl : (backTo pos (starEach [.Tuple [.Name x p1, .Name y p2] tk tpos] X.env)).any (·.1) = false := by rfl) :
    ZE X W (.Call (.Name "isinstance" p) [a, .Tuple [.Name x p1, .Name y p2] tk tpos] [] pos) (tCB (rIsiT K) (tCons ta (tCons (tTup (tCons (tC (.ty T)) (tCons (tC (.ty U)) tNil))) tNil))) (zIsi [T, U] fa) := by
  subst hK; exact ze_isi2 hg hm hmT hmU hvT hvU ha hgT hgU hT hU hnT hdT hnU hdU he he2 he3 he4 hpl
theorem kze_methL [Hot] {r : V → List V → Hp → VK → Prop} {op : D → List D → Sto → Rs D} (hK : X.K = K) (slot : Slot "list" name id) (hty : typeOf (.builtin id) = pure (.type "method_descriptor")) (hm : MtR X id r) (hs : MS X.K X.mg r op) (ho : ZE X W o to fo) (ha : ZA X W (e :: es) t f)
    (hbase : attributeBase o name X.env (eval o X.env) = eval o X.env := by rfl) (hfew : ((backTo cpos (starEach (e :: es) X.env)).all (fun x => !x.1) && (backToKw cpos (keywordEach [] X.env)).all (fun x => x.1.isSome) &&
      decide ((e :: es).length + ([] : List Keyword).length + (if ([] : List Keyword).isEmpty then 0 else 1) < 30)) = true := by rfl) (hline : (apos.endLine == cpos.line) = true := by rfl) (hst : starEach (e :: es) X.env = (false, eval e X.env) :: starEach es X.env := by rfl) (hplain : (backTo cpos (starEach es X.env)).any (·.1) = false := by rfl) :
    ZE X W (.Call (.Attribute o name apos) (e :: es) [] cpos) (tBM K "list" r to t) (zMethL op fo f) := by subst hK; exact ze_methL slot hty hm hs ho ha hbase hfew hline hst hplain
theorem kze_call [Hot] {st : Stmt} {ps : List Str} {k : Nat} {F : List D → Sto → Rs D} {n : Nat} (hn : ps.length = n) (hK : X.K = K) (hM : X.mg = mg) (h : FZ X.prog X.w X.K X.mg X.base k x st ps F) (hr : Room k X.A) (hg : Gl X x) (tk : Takes X W) (ha : ZA X W (e :: es) t f) (hdb : (x == ("__debug__" : Str)) = false := by decide) (he : starEach (e :: es) X.env = (false, eval e X.env) :: starEach es X.env := by rfl)
    (hpl : (backTo pos (starEach es X.env)).any (·.1) = false := by rfl) :
    ZE X W (.Call (.Name x p) (e :: es) [] pos) (tCallS (zSp K mg n F) (WE W) t) (zCallF n F f) := by subst hK hM hn; exact ze_call h hr hg tk ha hdb he hpl
theorem kze_callK [Hot] {kws : List Keyword} {pm : List Nat} {ks : List Str} {k : Nat} {st : Stmt} {ps : List Str} {F : List D → Sto → Rs D} {n : Nat} (hn : ps.length = n) (hK : X.K = K) (hM : X.mg = mg) (h : FZ X.prog X.w X.K X.mg X.base k x st ps F) (hr : Room k X.A) (hg : Gl X x) (tk : Takes X W)
    (hb : ∀ (kV doc pmv : Value) (an : Option Addr) (cdv ct : Value) (us ws : List Value), us.length = (e :: es).length → ws.length = ks.length → bindArgs (PySem.W.fnOf x x (defArgs st) (defBody st) (defScope st) .none kV doc pmv an cdv ct) ⟨us, ks.zip ws⟩ = pure (ps.zip (permL pm (us ++ ws))))
    (ha : ZA X W (e :: es) t f) (hkw : ZK X W kws tkk fk) (hkl : kws.length = ks.length := by rfl)
    (hall : (backToKw pos (keywordEach kws X.env)).all (·.1.isSome) = true := by rfl) (hks : (backToKw pos (keywordEach kws X.env)).filterMap (·.1) = ks := by rfl)
    (hdb : (x == ("__debug__" : Str)) = false := by decide)
    (he : starEach (e :: es) X.env = (false, eval e X.env) :: starEach es X.env := by rfl)
    (hpl : ((backTo pos (starEach (e :: es) X.env)).any (·.1) ||
      (backToKw pos (keywordEach kws X.env)).any (·.1.isNone)) = false := by rfl) :
    ZE X W (.Call (.Name x p) (e :: es) kws pos) (tCallKZ (e :: es).length ks.length pm (zSp K mg n F) (WE W) t tkk) (zCallK n F pm f fk) := by subst hK hM hn; exact ze_callK h hr hg tk hb ha hkw hkl hall hks hdb he hpl
theorem kze_callK0 [Hot] {kws : List Keyword} {pm : List Nat} {ks : List Str} {k : Nat} {st : Stmt} {ps : List Str} {F : List D → Sto → Rs D} {n : Nat} (hn : ps.length = n) (hK : X.K = K) (hM : X.mg = mg) (h : FZ X.prog X.w X.K X.mg X.base k x st ps F) (hr : Room k X.A) (hg : Gl X x) (tk : Takes X W)
    (hb : ∀ (kV doc pmv : Value) (an : Option Addr) (cdv ct : Value) (us ws : List Value), us.length = 0 → ws.length = ks.length → bindArgs (PySem.W.fnOf x x (defArgs st) (defBody st) (defScope st) .none kV doc pmv an cdv ct) ⟨us, ks.zip ws⟩ = pure (ps.zip (permL pm (us ++ ws))))
    (hkw : ZK X W kws tkk fk) (hkl : kws.length = ks.length := by rfl)
    (hall : (backToKw pos (keywordEach kws X.env)).all (·.1.isSome) = true := by rfl) (hks : (backToKw pos (keywordEach kws X.env)).filterMap (·.1) = ks := by rfl)
    (hdb : (x == ("__debug__" : Str)) = false := by decide) (hpl : ((backTo pos (starEach [] X.env)).any (·.1) || (backToKw pos (keywordEach kws X.env)).any (·.1.isNone)) = false := by rfl) :
    ZE X W (.Call (.Name x p) [] kws pos) (tCallKZ 0 ks.length pm (zSp K mg n F) (WE W) tNil tkk) (zCallK n F pm zNil fk) := by subst hK hM hn; exact ze_callK0 h hr hg tk hb hkw hkl hall hks hdb hpl
end
end Z

namespace Z
open PySem L2
open PySem.Spec PyProof.Rows
variable [Tabs]

/-! ### what a def is worth, by its run -/
def Shut (S0 : Sto) (d' : D) (S2 : Sto) : Prop := S0.length ≤ S2.length ∧ D.cl S0.length d' ∧ ∀ n c, n < S0.length → S2[n]? = some c → S0[n]? = some c ∨ C.cl S0.length c
def ShutX (S0 : Sto) (e : XV) (S1 : Sto) : Prop := S0.length ≤ S1.length ∧ (∀ fs, e.fs = some fs → ∀ p ∈ fs, D.cl S0.length p.2) ∧ ∀ n c, n < S0.length → S1[n]? = some c → S0[n]? = some c ∨ C.cl S0.length c
open Classical in
noncomputable def fin0 (fu : Nat) (S0 : Sto) (d : D) (S1 : Sto) : Rs D := match frz fu d S1 with
  | some (d', S2) => if Shut S0 d' S2 then .ok d' (S2.take S0.length) else .ok d' S2
  | none => .stk
open Classical in
noncomputable def finR (fu : Nat) (S0 : Sto) : Ss → Rs D
  | .mk (.ret d) S1 => fin0 fu S0 d S1
  | .mk (.next _) S1 => fin0 fu S0 .non S1
  | .mk (.exc e _) S1 => if ShutX S0 e S1 then .exc e (S1.take S0.length) else .stk
  | _ => .stk
noncomputable def Fof (fu : Nat) (N : List Str) (run : SM) (ds : List D) (S0 : Sto) : Rs D := finR fu S0 (run (startE N ds) S0)
theorem fin0_ok {fu : Nat} {S0 S1 S' : Sto} {d d' : D} (h : fin0 fu S0 d S1 = .ok d' S') : Fin fu S0 d S1 d' S' := by
  unfold fin0 at h
  split at h
  · rename_i e' S2 e
    split at h
    · rename_i c
      cases h
      exact ⟨_, e, .inr ⟨rfl, c.1, c.2.1, c.2.2⟩⟩
    · cases h
      exact ⟨_, e, .inl rfl⟩
  · cases h
theorem fin0_nx {fu : Nat} {S0 S1 S' : Sto} {d : D} {e : XV} (h : fin0 fu S0 d S1 = .exc e S') : False := by
  unfold fin0 at h
  split at h
  · split at h <;> cases h
  · cases h
open Classical in
theorem finX_eq {fu : Nat} {S0 S1 : Sto} {e : XV} {env : En} : finR fu S0 (.mk (.exc e env) S1) = if ShutX S0 e S1 then .exc e (S1.take S0.length) else .stk := by
  unfold finR; rfl
theorem impl_of {fu : Nat} {N : List Str} {run : SM} (ds : List D) (S0 : Sto) : Impl fu S0 (run (startE N ds) S0) (Fof fu N run ds S0) := by
  unfold Fof
  generalize run (startE N ds) S0 = r
  cases h : finR fu S0 r with
  | stk => trivial
  | ok d' S' =>
    cases r with
    | stk => cases h
    | mk fl S1 =>
      cases fl with
      | ret d => exact .inl ⟨d, S1, rfl, fin0_ok h⟩
      | next env => exact .inr ⟨env, S1, rfl, fin0_ok h⟩
      | brk _ => cases h
      | cnt _ => cases h
      | exc e env =>
        rw [finX_eq] at h
        by_cases c : ShutX S0 e S1
        · rw [if_pos c] at h; cases h
        · rw [if_neg c] at h; cases h
  | exc e S' =>
    cases r with
    | stk => cases h
    | mk fl S1 =>
      cases fl with
      | ret d => exact (fin0_nx h).elim
      | next env => exact (fin0_nx h).elim
      | brk _ => cases h
      | cnt _ => cases h
      | exc e' env =>
        rw [finX_eq] at h
        by_cases c : ShutX S0 e' S1
        · rw [if_pos c] at h
          cases h
          exact ⟨env, S1, rfl, rfl, c.1, c.2.1, c.2.2⟩
        · rw [if_neg c] at h; cases h
/-! ways to a def's worth -/
theorem shut_app {S0 L : Sto} {d : D} (h : D.cl S0.length d) : Shut S0 d (S0 ++ L) := by
  refine ⟨by simp, h, fun n c hn e => .inl ?_⟩
  rw [List.getElem?_append_left hn] at e
  exact e
theorem shut_self {S0 : Sto} {d : D} (h : D.cl S0.length d) : Shut S0 d S0 := ⟨Nat.le_refl _, h, fun _ _ _ e => .inl e⟩
/-- a def that leaves the store as it is: its cells L may be there behind it -/
theorem Fof_pure {fu : Nat} {N : List Str} {run : SM} {ds : List D} {S0 L : Sto} {d d' : D} (h : run (startE N ds) S0 = .mk (.ret d) (S0 ++ L)) {L' : Sto} (hf : frz fu d (S0 ++ L) = some (d', S0 ++ L')) (hc : D.cl S0.length d') : Fof fu N run ds S0 = .ok d' S0 := by
  unfold Fof
  rw [h]
  show fin0 _ _ _ _ = _
  unfold fin0
  rw [hf]
  simp only []
  rw [if_pos (shut_app hc), List.take_left']
  rfl
theorem Fof_ret0 {N : List Str} {run : SM} {ds : List D} {S0 : Sto} {d : D} (h : run (startE N ds) S0 = .mk (.ret d) S0) (hc : D.cl S0.length d) : Fof 0 N run ds S0 = .ok d S0 := by
  unfold Fof
  rw [h]
  show fin0 _ _ _ _ = _
  unfold fin0 frz
  simp only []
  rw [if_pos (shut_self hc), List.take_length]
/-- a def whose store behind it is S1, as long as the one ahead -/
theorem Fof_same {fu : Nat} {N : List Str} {run : SM} {ds : List D} {S0 S1 S2 : Sto} {d d' : D} (h : run (startE N ds) S0 = .mk (.ret d) S1) (hf : frz fu d S1 = some (d', S2)) (hc : Shut S0 d' S2) : Fof fu N run ds S0 = .ok d' (S2.take S0.length) := by
  unfold Fof
  rw [h]
  show fin0 _ _ _ _ = _
  unfold fin0
  rw [hf]
  simp only []
  rw [if_pos hc]

/-! ### a def that never comes to its end here: for the bottom of a recursion -/
theorem fz_stk {P w K mg base} {x : Str} {st : Stmt} {f : Addr} {fd : FuncData} {ps : List Str} (gm : mg x = some (.ref f)) (hF : Fun K x x st f fd) (hb : Binds K fd ps []) : FZ P w K mg base 0 x st ps (fun _ _ => .stk) :=
  ⟨f, fd, gm, hF, hb, fun _ _ _ _ h => h.1, fun A outer s H args us vs Q E hr he hbb hv hs => by
    obtain ⟨_, fr, m, Hc, S, ds, _, _, p⟩ := hs
    exact p.elim⟩

/-! ### loops, by what holds between two turns -/
theorem forL_ind {s : Src} {g : GM} {b : SM} (P : Nat → En → Sto → Prop) : ∀ (items : List D) (i0 : Nat) (env : En) (S : Sto), P i0 env S → (∀ i env S, P i env S → s.okAt S = true) →
    (∀ (i : Nat) (d : D) (env : En) (S : Sto), items[i]? = some d → P (i0 + i) env S → ∃ env1 env2 S2, g d env = some env1 ∧ (b env1 S = .mk (.next env2) S2 ∨ b env1 S = .mk (.cnt env2) S2) ∧ P (i0 + i + 1) env2 S2) →
    ∃ env' S', forL s g b items env S = .mk (.next env') S' ∧ P (i0 + items.length) env' S'
  | [], i0, env, S, h, hok, _ => by
    refine ⟨env, S, ?_, h⟩
    unfold forL
    rw [if_pos (hok _ _ _ h)]
  | d :: ds, i0, env, S, h, hok, step => by
    obtain ⟨env1, env2, S2, h1, h2, h3⟩ := step 0 d env S rfl h
    obtain ⟨env', S', h4, h5⟩ := forL_ind P ds (i0 + 1) env2 S2 h3 hok fun i d env S hi hp => by
      have := step (i + 1) d env S hi (by rw [← Nat.add_assoc, Nat.add_right_comm]; exact hp)
      rw [show i0 + (i + 1) + 1 = i0 + 1 + i + 1 by omega] at this
      exact this
    refine ⟨env', S', ?_, by rw [show i0 + (d :: ds).length = i0 + 1 + ds.length by simp; omega]; exact h5⟩
    unfold forL
    rw [if_pos (hok _ _ _ h), h1]
    rcases h2 with h2 | h2 <;> (simp only [h2]; exact h4)
theorem lcA_ind {s : Src} {g : GM} {ft : EM Bool} {fe : EM D} {env : En} (P : Nat → List D → Sto → Prop) : ∀ (items : List D) (i0 : Nat) (acc : List D) (S : Sto), P i0 acc S → (∀ i acc S, P i acc S → s.okAt S = true) →
    (∀ (i : Nat) (d : D) (acc : List D) (S : Sto), items[i]? = some d → P (i0 + i) acc S → ∃ env1 b S1, g d env = some env1 ∧ ft env1 S = .ok b S1 ∧ (b = false → P (i0 + i + 1) acc S1) ∧ (b = true → ∃ y S2, fe env1 S1 = .ok y S2 ∧ acc.length < bigN ∧ P (i0 + i + 1) (acc ++ [y]) S2)) →
    ∃ acc' S', lcA s g ft fe env items acc S = .ok acc' S' ∧ P (i0 + items.length) acc' S'
  | [], i0, acc, S, h, hok, _ => by
    refine ⟨acc, S, ?_, h⟩
    unfold lcA
    rw [if_pos (hok _ _ _ h)]
  | d :: ds, i0, acc, S, h, hok, step => by
    obtain ⟨env1, b, S1, h1, h2, h3, h4⟩ := step 0 d acc S rfl h
    have rec_ : ∀ acc2 S2, P (i0 + 0 + 1) acc2 S2 → ∃ acc' S', lcA s g ft fe env ds acc2 S2 = .ok acc' S' ∧ P (i0 + (d :: ds).length) acc' S' := fun acc2 S2 hp => by
      obtain ⟨acc', S', h5, h6⟩ := lcA_ind P ds (i0 + 1) acc2 S2 hp hok fun i d acc S hi hp => by
        have := step (i + 1) d acc S hi (by rw [← Nat.add_assoc, Nat.add_right_comm]; exact hp)
        rw [show i0 + (i + 1) + 1 = i0 + 1 + i + 1 by omega] at this
        exact this
      exact ⟨acc', S', h5, by rw [show i0 + (d :: ds).length = i0 + 1 + ds.length by simp; omega]; exact h6⟩
    have e0 : lcA s g ft fe env (d :: ds) acc S = (ft env1 S).nox.bnd fun b S1 => if b = true then (fe env1 S1).nox.bnd fun y S2 => if acc.length < bigN then lcA s g ft fe env ds (acc ++ [y]) S2 else .stk else lcA s g ft fe env ds acc S1 := by
      rw [lcA, if_pos (hok _ _ _ h), h1]
    rw [e0, h2]
    simp only [Rs.nox_ok, Rs.bnd_ok]
    cases b with
    | false =>
      rw [if_neg (by decide)]
      exact rec_ acc S1 (h3 rfl)
    | true =>
      obtain ⟨y, S2, h5, h6, h7⟩ := h4 rfl
      rw [if_pos rfl, h5]
      simp only [Rs.nox_ok, Rs.bnd_ok]
      rw [if_pos h6]
      exact rec_ _ S2 h7
end Z

namespace Z
open PySem L2
open PySem.Spec PyProof.Rows
variable [Tabs]

/-! ### insert -/
def dInsert (x : D) (ys : List D) (S : Sto) : Rs D := match x, ys with
  | .ptr n, [.int i, y] => match S[n]? with
    | some (.lst ds) => if ds.length < bigN ∧ 0 ≤ i ∧ i ≤ 1000000 then .ok .non (S.set n (.lst (ds.take i.toNat ++ [y] ++ ds.drop i.toNat))) else .stk
    | _ => .stk
  | _, _ => .stk
def rInsertZ : V → List V → Hp → VK → Prop := fun x vs H Q => ∃ (l : Addr) (xs : List V) (i : Int) (y : V), x = .ref l ∧ vs = [.int i, y] ∧ H l = some (.lst xs) ∧ xs.length < sizeLine ∧ 0 ≤ i ∧ i < 2 ^ 63 ∧ Q .non (upd H l (.lst (xs.take i.toNat ++ [y] ++ xs.drop i.toNat)))
theorem mt_insertZ {X : Cx} : MtR X "list.insert" rInsertZ := mt_insert
theorem ms_insert {K mg} : MS K mg rInsertZ dInsert := by
  intro fr m Hc S H x xs d ds w Q z r1 r2 p
  unfold dInsert at p
  split at p
  · rename_i n i y
    obtain ⟨a, rfl, hn⟩ := r1
    obtain ⟨u, v, rfl, ru, rv⟩ := r2.two_of
    cases ru
    cases h : S[n]? with
    | none => simp [h] at p; exact p.elim
    | some c =>
      cases c with
      | gone => simp [h] at p; exact p.elim
      | dct ks0 ds0 => simp [h] at p; exact p.elim
      | lst es =>
        simp only [h] at p
        by_cases hl : es.length < bigN ∧ 0 ≤ i ∧ i ≤ 1000000
        · rw [if_pos hl] at p
          obtain ⟨_, vs, h1, h2⟩ := z.cel n a _ hn h
          exact ⟨a, vs, i, v, rfl, rfl, h1, by rw [h2.length]; exact Nat.lt_of_lt_of_le hl.1 (by decide), hl.2.1, by omega, p _ m Hc _ (Ex.refl _ _) (z.wr hn h (((h2.take _).append (Reps.one rv)).append (h2.drop _))) rfl⟩
        · rw [if_neg hl] at p; exact p.elim
  · exact p.elim

/-! ### any, all, sum of a list -/
def boolsOf : List D → Option (List Bool)
  | [] => some []
  | .bl b :: r => (boolsOf r).map fun bs => b :: bs
  | _ :: _ => none
theorem Reps.bools {K Hc m} : ∀ {ds : List D} {vs : List V} {bs : List Bool}, Reps K Hc m ds vs → boolsOf ds = some bs → vs = bs.map V.bl
  | [], _, _, r, e => by cases r; cases e; rfl
  | .bl b :: ds, _, _, ⟨v, r, e1, h1, h2⟩, e => by
    subst e1
    unfold boolsOf at e
    cases h : boolsOf ds with
    | none => rw [h] at e; cases e
    | some bs =>
      rw [h] at e
      cases e
      cases h1
      rw [List.map_cons, Reps.bools h2 h]
  | .non :: _, _, _, _, e => by cases e
  | .int _ :: _, _, _, _, e => by cases e
  | .str _ :: _, _, _, _, e => by cases e
  | .tup _ :: _, _, _, _, e => by cases e
  | .lst _ :: _, _, _, _, e => by cases e
  | .ptr _ :: _, _, _, _, e => by cases e
  | .rol _ :: _, _, _, _, e => by cases e
  | .rng _ _ :: _, _, _, _, e => by cases e
  | .ty _ :: _, _, _, _, e => by cases e
  | .rot _ :: _, _, _, _, e => by cases e
  | .dct _ _ :: _, _, _, _, e => by cases e
def dAny (xs : List D) (S : Sto) : Rs D := match xs with
  | [d] => match (seqOf d S).bind boolsOf with
    | some bs => .ok (.bl (bs.any id)) S
    | none => .stk
  | _ => .stk
def dAll (xs : List D) (S : Sto) : Rs D := match xs with
  | [d] => match (seqOf d S).bind boolsOf with
    | some bs => .ok (.bl (bs.all id)) S
    | none => .stk
  | _ => .stk
theorem cs_any {K mg} : CS K mg (rAny K) dAny := by
  intro fr m Hc S H xs ds w Q z r p
  unfold dAny at p
  split at p
  · rename_i d
    obtain ⟨v, rfl, r1⟩ := r.one_of
    cases e : seqOf d S with
    | none => simp [e] at p; exact p.elim
    | some es =>
      cases e2 : boolsOf es with
      | none => simp [e, e2] at p; exact p.elim
      | some bs =>
        simp only [e, e2, Option.bind_some] at p
        obtain ⟨a, vs, rfl, q, rr⟩ := z.seq r1 e
        have := rr.bools e2
        subst this
        exact ⟨a, bs, rfl, q, p.use z rfl⟩
  · exact p.elim
theorem cs_all {K mg} : CS K mg (rAll K) dAll := by
  intro fr m Hc S H xs ds w Q z r p
  unfold dAll at p
  split at p
  · rename_i d
    obtain ⟨v, rfl, r1⟩ := r.one_of
    cases e : seqOf d S with
    | none => simp [e] at p; exact p.elim
    | some es =>
      cases e2 : boolsOf es with
      | none => simp [e, e2] at p; exact p.elim
      | some bs =>
        simp only [e, e2, Option.bind_some] at p
        obtain ⟨a, vs, rfl, q, rr⟩ := z.seq r1 e
        have := rr.bools e2
        subst this
        exact ⟨a, bs, rfl, q, p.use z rfl⟩
  · exact p.elim
def intsOf : List D → Option (List Int)
  | [] => some []
  | .int b :: r => (intsOf r).map fun bs => b :: bs
  | _ :: _ => none
theorem intsOf_some : ∀ {ds : List D} {ns : List Int}, intsOf ds = some ns → ds = ns.map D.int
  | [], _, e => by cases e; rfl
  | d :: ds, ns, e => by
    cases d <;> first | (cases e; done) | skip
    unfold intsOf at e
    cases h : intsOf ds with
    | none => rw [h] at e; cases e
    | some bs => rw [h] at e; cases e; rw [List.map_cons, ← intsOf_some h]
def dSum (xs : List D) (S : Sto) : Rs D := match xs with
  | [d] => match (seqOf d S).bind intsOf with
    | some ns => .ok (.int ns.sum) S
    | none => .stk
  | _ => .stk
theorem cs_sum {K mg} : CS K mg (rSum K) dSum := by
  intro fr m Hc S H xs ds w Q z r p
  unfold dSum at p
  split at p
  · rename_i d
    obtain ⟨v, rfl, r1⟩ := r.one_of
    cases e : seqOf d S with
    | none => simp [e] at p; exact p.elim
    | some es =>
      cases e2 : intsOf es with
      | none => simp [e, e2] at p; exact p.elim
      | some ns =>
        simp only [e, e2, Option.bind_some] at p
        obtain ⟨a, vs, rfl, q, rr⟩ := z.seq r1 e
        rw [intsOf_some e2] at rr
        have := rr.ints
        subst this
        exact ⟨a, ns, rfl, q, p.use z rfl⟩
  · exact p.elim

/-! ### x in a list or tuple of data -/
def rInZ (K : PySem.W.Frag) (neg : Bool) : R2 := fun x y H Q => ∃ (d : PyData) (ds : List PyData), Dp K H x d ∧ (Dp K H y (.list ds) ∨ Dp K H y (.tuple ds)) ∧ SeqAt.shaped d = true ∧ SeqAt.shaped (.list ds) = true ∧
  Q (.bl (if neg = true then !ds.any (fun z => PyData.eqv z d) else ds.any fun z => PyData.eqv z d)) H
theorem op_inZ {X : Cx} (hu : X.A.units + 65 < cLine) : OpR X (compareOp .In) (rInZ X.K false) := by
  intro ps s σ H x y v u Q inv rx ry ⟨d, ds, dx, dy, sx, sy, fit⟩
  obtain ⟨as, r1⟩ := Dp.reads inv d x v dx rx
  have lay := SeqAt.canLay_of_shaped sx
  rcases dy with dy | dy
  · obtain ⟨bs, r2⟩ := Dp.reads inv (.list ds) y u dy ry
    exact SeqAt.in_list_reads r2 r1 (SeqAt.canLay_of_shaped sy) lay (room_in_shaped sx hu) ⟨.bl _, H, inv, rfl, fit⟩
  · obtain ⟨bs, r2⟩ := Dp.reads inv (.tuple ds) y u dy ry
    exact SeqAt.in_tuple_reads r2 r1 (SeqAt.canLay_of_shaped sy) lay (room_in_shaped sx hu) ⟨.bl _, H, inv, rfl, fit⟩
theorem op_ninZ {X : Cx} (hu : X.A.units + 65 < cLine) : OpR X (compareOp .NotIn) (rInZ X.K true) := by
  intro ps s σ H x y v u Q inv rx ry ⟨d, ds, dx, dy, sx, sy, fit⟩
  obtain ⟨as, r1⟩ := Dp.reads inv d x v dx rx
  have lay := SeqAt.canLay_of_shaped sx
  rcases dy with dy | dy
  · obtain ⟨bs, r2⟩ := Dp.reads inv (.list ds) y u dy ry
    exact SeqAt.notIn_list_reads r2 r1 (SeqAt.canLay_of_shaped sy) lay (room_in_shaped sx hu) ⟨.bl _, H, inv, rfl, fit⟩
  · obtain ⟨bs, r2⟩ := Dp.reads inv (.tuple ds) y u dy ry
    exact SeqAt.notIn_tuple_reads r2 r1 (SeqAt.canLay_of_shaped sy) lay (room_in_shaped sx hu) ⟨.bl _, H, inv, rfl, fit⟩
def inD (neg : Bool) (x y : D) (S : Sto) : Rs D := match toP S x, (anyOf y S).bind (toPs S) with
  | some a, some ps => if SeqAt.shaped a = true ∧ SeqAt.shaped (.list ps) = true then .ok (.bl (if neg = true then !ps.any (fun z => PyData.eqv z a) else ps.any fun z => PyData.eqv z a)) S else .stk
  | _, _ => .stk
def dIn : D → D → Sto → Rs D := inD false
def dNotIn : D → D → Sto → Rs D := inD true
theorem os_in {K mg} (neg : Bool) : OS K mg (rInZ K neg) (inD neg) := by
  intro fr m Hc S H x y dx dy w Q z r1 r2 p
  unfold inD at p
  cases e1 : toP S dx with
  | none => simp [e1] at p; exact p.elim
  | some a =>
    cases e2 : anyOf dy S with
    | none => simp [e1, e2] at p; exact p.elim
    | some es =>
      cases e3 : toPs S es with
      | none => simp [e1, e2, e3] at p; exact p.elim
      | some ps =>
        simp only [e1, e2, e3, Option.bind_some] at p
        by_cases c : SeqAt.shaped a = true ∧ SeqAt.shaped (.list ps) = true
        · rw [if_pos c] at p
          obtain ⟨l, vs, rfl, q, rr⟩ := z.any r2 e2
          refine ⟨a, ps, toP_ok z dx x a r1 e1, ?_, c.1, c.2, p.use z rfl⟩
          have all := toPs_ok z es vs ps rr e3
          rcases q with q | q
          · exact .inl (.lst q all)
          · exact .inr (.tup q all)
        · rw [if_neg c] at p; exact p.elim
section
variable {X : Cx} {K : PySem.W.Frag}
theorem zo_in {k : Nat} (hr : Room k X.A) : ZO X (compareOp .In) (rInZ X.K false) dIn := ⟨op_inZ (by have := hr.un; omega), os_in false⟩
theorem zo_notIn {k : Nat} (hr : Room k X.A) : ZO X (compareOp .NotIn) (rInZ X.K true) dNotIn := ⟨op_ninZ (by have := hr.un; omega), os_in true⟩
theorem kzo_in {k : Nat} (hK : X.K = K) (hr : Room k X.A) : ZO X (compareOp .In) (rInZ K false) dIn := by subst hK; exact zo_in hr
theorem kzo_notIn {k : Nat} (hK : X.K = K) (hr : Room k X.A) : ZO X (compareOp .NotIn) (rInZ K true) dNotIn := by subst hK; exact zo_notIn hr
theorem kcall_any (hK : X.K = K) (hc : X.calm = true) : CallR X (.builtin "any") (rAny K) := by subst hK; exact cr_any hc
theorem kcall_all (hK : X.K = K) (hc : X.calm = true) : CallR X (.builtin "all") (rAll K) := by subst hK; exact cr_all hc
theorem kcall_sum (hK : X.K = K) (hc : X.calm = true) : CallR X (.builtin "sum") (rSum K) := by subst hK; exact cr_sum hc
end
end Z

namespace Z
open PySem L2
open PySem.Spec PyProof.Rows
variable [Tabs]

/-! ### operations at ints, for simp -/
section
variable (i j : Int) (S : Sto)
@[simp] theorem ev_sub : dSub (.int i) (.int j) S = .ok (.int (i - j)) S := rfl
@[simp] theorem ev_and : dAnd (.int i) (.int j) S = .ok (.int (Builtin.bitAnd i j)) S := rfl
@[simp] theorem ev_or : dOr (.int i) (.int j) S = .ok (.int (Builtin.bitOr i j)) S := rfl
@[simp] theorem ev_xor : dXor (.int i) (.int j) S = .ok (.int (Builtin.bitXor i j)) S := rfl
@[simp] theorem ev_lt : dLt (.int i) (.int j) S = .ok (.bl (decide (i < j))) S := rfl
@[simp] theorem ev_le : dLe (.int i) (.int j) S = .ok (.bl (decide (i ≤ j))) S := rfl
@[simp] theorem ev_gt : dGt (.int i) (.int j) S = .ok (.bl (decide (j < i))) S := rfl
@[simp] theorem ev_ge : dGe (.int i) (.int j) S = .ok (.bl (decide (j ≤ i))) S := rfl
@[simp] theorem ev_div : dDiv (.int i) (.int j) S = if 0 < j ∧ j < 1073741824 then .ok (.int (i / j)) S else .stk := rfl
@[simp] theorem ev_mod : dMod (.int i) (.int j) S = if 0 < j then .ok (.int (i % j)) S else .stk := rfl
@[simp] theorem ev_shl : dShl (.int i) (.int j) S = if 0 ≤ j ∧ j ≤ 1000000 ∧ i.natAbs < 2 ^ 64 then .ok (.int (i * 2 ^ j.toNat)) S else .stk := rfl
@[simp] theorem ev_shr : dShr (.int i) (.int j) S = if 0 ≤ j then .ok (.int (i / 2 ^ j.toNat)) S else .stk := rfl
@[simp] theorem ev_add : dAdd (.int i) (.int j) S = .ok (.int (i + j)) S := rfl
@[simp] theorem ev_mul : dMul (.int i) (.int j) S = if (-(2 ^ 64) < i ∧ i < 2 ^ 64) ∨ (-(2 ^ 64) < j ∧ j < 2 ^ 64) then .ok (.int (i * j)) S else .stk := rfl
@[simp] theorem ev_eq : dEq (.int i) (.int j) S = .ok (.bl (decide (i = j))) S := rfl
@[simp] theorem ev_neB (a b : Bool) : dNe (.bl a) (.bl b) S = .ok (.bl (!decide (a = b))) S := rfl
@[simp] theorem ev_eqB (a b : Bool) : dEq (.bl a) (.bl b) S = .ok (.bl (decide (a = b))) S := rfl
@[simp] theorem ev_ne : dNe (.int i) (.int j) S = .ok (.bl (!decide (i = j))) S := rfl
end

theorem frz_one {S : Sto} {ds : List D} : frz 1 (.ptr S.length) (S ++ [.lst ds]) = some (.lst ds, S ++ [.gone]) := by
  simp [frz, frzs]
mutual
theorem D.cl_mono {k k' : Nat} (h : k ≤ k') : ∀ d : D, D.cl k d → D.cl k' d
  | .tup ds, q => D.cls_mono h ds q
  | .lst ds, q => D.cls_mono h ds q
  | .rot ds, q => D.cls_mono h ds q
  | .dct _ ds, q => D.cls_mono h ds q
  | .ptr n, q => Nat.lt_of_lt_of_le q h
  | .non, q => q
  | .bl _, q => q
  | .int _, q => q
  | .str _, q => q
  | .rol _, q => q
  | .rng _ _, q => q
  | .ty _, q => q
theorem D.cls_mono {k k' : Nat} (h : k ≤ k') : ∀ ds : List D, D.cls k ds → D.cls k' ds
  | [], q => q
  | d :: ds, q => ⟨D.cl_mono h d q.1, D.cls_mono h ds q.2⟩
end
theorem cls_all {k : Nat} : ∀ {ds : List D}, (∀ d ∈ ds, D.cl k d) → D.cls k ds
  | [], _ => trivial
  | d :: ds, h => ⟨h d List.mem_cons_self, cls_all fun e he => h e (List.mem_cons_of_mem _ he)⟩
theorem cls_at {k : Nat} : ∀ {ds : List D}, D.cls k ds → ∀ d ∈ ds, D.cl k d
  | d :: ds, h, e, he => by
    rcases List.mem_cons.mp he with q | q
    · subst q; exact h.1
    · exact cls_at h.2 e q
/-! ### numbers as sets of bits -/
theorem bAnd_nat (a b : Nat) : Builtin.bitAnd (a : Int) (b : Int) = ((a &&& b : Nat) : Int) := by
  unfold Builtin.bitAnd
  simp
theorem bOr_nat (a b : Nat) : Builtin.bitOr (a : Int) (b : Int) = ((a ||| b : Nat) : Int) := by
  have e : ∀ k : Nat, (Builtin.bitNot (Builtin.bitNot (k : Int))).toNat = k := fun k => by unfold Builtin.bitNot; omega
  have l : ∀ k : Nat, decide (0 ≤ Builtin.bitNot (k : Int)) = false := fun k => by unfold Builtin.bitNot; simp; omega
  unfold Builtin.bitOr Builtin.bitAnd
  simp only [e, l]
  unfold Builtin.bitNot
  omega
theorem bXor_bit {m k : Nat} (h : m.testBit k = true) : Builtin.bitXor (m : Int) ((2 ^ k : Nat) : Int) = ((m - 2 ^ k : Nat) : Int) := by
  have h1 : m ||| 2 ^ k = m := by
    apply Nat.eq_of_testBit_eq
    intro i
    rw [Nat.testBit_or, Nat.testBit_two_pow]
    by_cases e : k = i
    · subst e; simp [h]
    · simp [e]
  have h2 : m &&& 2 ^ k = 2 ^ k := by
    apply Nat.eq_of_testBit_eq
    intro i
    rw [Nat.testBit_and, Nat.testBit_two_pow]
    by_cases e : k = i
    · subst e; simp [h]
    · simp [e]
  have h3 : 2 ^ k ≤ m := Nat.ge_two_pow_of_testBit h
  unfold Builtin.bitXor
  rw [bOr_nat, bAnd_nat, h1, h2]
  omega
theorem bXor_bitI {m k : Nat} (h : m.testBit k = true) : Builtin.bitXor (m : Int) ((2 : Int) ^ k) = ((m - 2 ^ k : Nat) : Int) := by
  rw [← bXor_bit h]; simp
theorem sub_bit : ∀ {k m : Nat} (i : Nat), m.testBit k = true → (m - 2 ^ k).testBit i = (m.testBit i && decide (k ≠ i))
  | 0, m, i, h => by
    have h1 : m % 2 = 1 := by simpa [Nat.testBit_zero] using h
    cases i with
    | zero => simp [Nat.testBit_zero]; omega
    | succ i =>
      rw [Nat.testBit_succ, Nat.testBit_succ]
      have e : (m - 2 ^ 0) / 2 = m / 2 := by omega
      rw [e]; simp
  | k + 1, m, i, h => by
    rw [Nat.testBit_succ] at h
    have hle : 2 ^ k ≤ m / 2 := Nat.ge_two_pow_of_testBit h
    have p : 2 ^ (k + 1) = 2 * 2 ^ k := by rw [Nat.pow_succ]; omega
    cases i with
    | zero =>
      rw [Nat.testBit_zero, Nat.testBit_zero]
      have : (m - 2 ^ (k + 1)) % 2 = m % 2 := by omega
      rw [this]; simp
    | succ i =>
      rw [Nat.testBit_succ, Nat.testBit_succ]
      have e : (m - 2 ^ (k + 1)) / 2 = m / 2 - 2 ^ k := by omega
      rw [e, sub_bit i h]
      simp
theorem low_ex : ∀ (m : Nat), 0 < m → ∃ k, m.testBit k = true ∧ (∀ i, i < k → m.testBit i = false) ∧ m - (m &&& (m - 1)) = 2 ^ k ∧ (m &&& (m - 1)) ≤ m := by
  intro m
  induction m using Nat.strongRecOn with | _ m ih =>
    intro hm
    by_cases h : m % 2 = 1
    · refine ⟨0, by simp [Nat.testBit_zero, h], fun i hi => by omega, ?_, Nat.and_le_left⟩
      have e : m &&& (m - 1) = m - 1 := by
        apply Nat.eq_of_testBit_eq
        intro i
        rw [Nat.testBit_and]
        cases i with
        | zero => simp only [Nat.testBit_zero]; have : (m - 1) % 2 = 0 := by omega
                  simp [this]
        | succ i =>
          rw [Nat.testBit_succ, Nat.testBit_succ]
          have : (m - 1) / 2 = m / 2 := by omega
          rw [this]; simp
      rw [e]; omega
    · obtain ⟨k, h1, h2, h3, h4⟩ := ih (m / 2) (by omega) (by omega)
      have e : m &&& (m - 1) = 2 * (m / 2 &&& (m / 2 - 1)) := by
        apply Nat.eq_of_testBit_eq
        intro i
        rw [Nat.testBit_and]
        cases i with
        | zero => simp only [Nat.testBit_zero]; have : m % 2 = 0 := by omega
                  simp [this]
        | succ i =>
          rw [Nat.testBit_succ, Nat.testBit_succ, Nat.testBit_succ]
          have : (m - 1) / 2 = m / 2 - 1 := by omega
          rw [this, Nat.mul_div_cancel_left _ (by omega), Nat.testBit_and]
      refine ⟨k + 1, by rw [Nat.testBit_succ]; exact h1, fun i hi => ?_, ?_, Nat.and_le_left⟩
      · cases i with
        | zero => simp [Nat.testBit_zero]; omega
        | succ i => rw [Nat.testBit_succ]; exact h2 i (by omega)
      · rw [e, Nat.pow_succ]; omega
/-- the number m & -m, and its place -/
theorem low_int {m : Nat} (hm : 0 < m) : ∃ k, m.testBit k = true ∧ (∀ i, i < k → m.testBit i = false) ∧ Builtin.bitAnd (m : Int) (-(m : Int)) = ((2 ^ k : Nat) : Int) := by
  obtain ⟨k, h1, h2, h3, h4⟩ := low_ex m hm
  refine ⟨k, h1, h2, ?_⟩
  have e : (Builtin.bitNot (-(m : Int))).toNat = m - 1 := by unfold Builtin.bitNot; omega
  have l : decide (0 ≤ (m : Int)) = true := by simp
  have l2 : decide (0 ≤ -(m : Int)) = false := by simp; omega
  unfold Builtin.bitAnd
  simp only [e, l, l2]
  rw [← h3]
  simp only [Int.toNat_natCast]
  omega
theorem bits_pow (k : Nat) : Builtin.Int.intBits ((2 ^ k : Nat) : Int) = k + 1 := by
  unfold Builtin.Int.intBits
  have h : (2 ^ k : Nat) ≠ 0 := Nat.pos_iff_ne_zero.mp (Nat.two_pow_pos k)
  rw [if_neg (fun e => h (by have q := eq_of_beq e; exact Int.ofNat_eq_zero.mp q)), Int.natAbs_natCast, Nat.log2_two_pow]
theorem bits_powI (k : Nat) : Builtin.Int.intBits ((2 : Int) ^ k) = k + 1 := by
  rw [show (2 : Int) ^ k = ((2 ^ k : Nat) : Int) by simp, bits_pow]
/-- the bits of a number, ascending -/
def bitsN (n m : Nat) : List Nat := (List.range n).filter fun i => m.testBit i
theorem bitsN_zero {n m : Nat} (hm : m < 2 ^ n) (h : bitsN n m = []) : m = 0 := by
  apply Nat.eq_of_testBit_eq
  intro i
  rw [Nat.zero_testBit]
  by_cases hi : i < n
  · have := List.filter_eq_nil_iff.mp h i (List.mem_range.mpr hi)
    simpa using this
  · exact Nat.testBit_lt_two_pow (Nat.lt_of_lt_of_le hm (Nat.pow_le_pow_right (by omega) (by omega)))
theorem asc_ext {l l' : List Nat} (h : l.Pairwise (· < ·)) (h' : l'.Pairwise (· < ·)) (e : ∀ a, a ∈ l ↔ a ∈ l') : l = l' := by
  have nd : ∀ {l : List Nat}, l.Pairwise (· < ·) → l.Nodup := fun h => h.imp fun h => Nat.ne_of_lt h
  exact ((List.perm_ext_iff_of_nodup (nd h) (nd h')).mpr e).eq_of_pairwise (fun a b _ _ h1 h2 => by omega) h h'
theorem bitsN_asc (n m : Nat) : (bitsN n m).Pairwise (· < ·) := List.Pairwise.filter _ List.pairwise_lt_range
theorem mem_bitsN {n m i : Nat} : i ∈ bitsN n m ↔ i < n ∧ m.testBit i = true := by unfold bitsN; rw [List.mem_filter, List.mem_range]
theorem bitsN_step {n m k : Nat} (hm : m < 2 ^ n) (h1 : m.testBit k = true) (h2 : ∀ i, i < k → m.testBit i = false) : bitsN n m = k :: bitsN n (m - 2 ^ k) := by
  have hk : k < n := by
    rcases Nat.lt_or_ge k n with h | h
    · exact h
    · rw [Nat.testBit_lt_two_pow (Nat.lt_of_lt_of_le hm (Nat.pow_le_pow_right (by omega) h))] at h1; cases h1
  refine asc_ext (bitsN_asc _ _) (List.pairwise_cons.mpr ⟨fun a ha => ?_, bitsN_asc _ _⟩) fun a => ?_
  · obtain ⟨ha1, ha2⟩ := mem_bitsN.mp ha
    rw [sub_bit a h1] at ha2
    simp at ha2
    rcases Nat.lt_or_ge k a with h | h
    · exact h
    · rcases Nat.lt_or_ge a k with h' | h'
      · rw [h2 a h'] at ha2; simp at ha2
      · omega
  · rw [List.mem_cons, mem_bitsN, mem_bitsN, sub_bit a h1]
    by_cases e : k = a
    · subst e; simp [hk, h1]
    · have e' : ¬ a = k := fun h => e h.symm
      simp [e, e']
theorem ixNn {n j : Nat} (hj : j < n) : ixN n (j : Int) = some j := by
  unfold ixN
  rw [if_pos (Int.natCast_nonneg j), if_pos (by omega)]
  simp
/-! ### tables, orders as data -/
def dN (k : Nat) : D := .int (k : Int)
def pD (p : Nat × Nat) : D := .tup [dN p.1, dN p.2]
def ordD (n : Nat) (P : List (Nat × Nat)) : D := .tup [dN n, .tup (P.map pD)]
def tab (n : Nat) (u : Nat → Nat) : List D := (List.range n).map fun x => dN (u x)
@[simp] theorem tab_len (n : Nat) (u : Nat → Nat) : (tab n u).length = n := by simp [tab]
theorem tab_get {n x : Nat} (u : Nat → Nat) (h : x < n) : (tab n u)[x]? = some (dN (u x)) := by
  simp [tab, h]
theorem set_fun {α : Type} {n x : Nat} (f : Nat → α) (v : α) : ((List.range n).map f).set x v = (List.range n).map fun i => if i = x then v else f i := by
  refine List.ext_getElem (by simp) ?_
  intro i h1 h2
  simp [List.getElem_set]
  by_cases e : x = i
  · simp [e]
  · simp [e]
    intro q; exact absurd q.symm e
theorem tab_set {n x : Nat} (u : Nat → Nat) (v : Nat) : (tab n u).set x (dN v) = tab n (fun i => if i = x then v else u i) := by
  unfold tab
  rw [set_fun]
  congr 1
  funext i
  by_cases e : i = x <;> simp [e]
theorem clN (k : Nat) (j : Nat) : D.cl k (dN j) := trivial
theorem cl_pD (k : Nat) (p : Nat × Nat) : D.cl k (pD p) := ⟨trivial, trivial, trivial⟩
theorem cls_map {α : Type} {k : Nat} {f : α → D} (h : ∀ a, D.cl k (f a)) (l : List α) : D.cls k (l.map f) := cls_all fun d hd => by
  obtain ⟨a, _, e⟩ := List.mem_map.mp hd
  subst e
  exact h a
theorem cl_ordD (k n : Nat) (P : List (Nat × Nat)) : D.cl k (ordD n P) := ⟨trivial, cls_map (cl_pD k) P, trivial⟩
/-- the masks of what lies above, below -/
def upF (P : List (Nat × Nat)) (u : Nat → Nat) : Nat → Nat := P.foldl (fun u p i => if i = p.1 then u p.1 ||| 2 ^ p.2 else u i) u
theorem upF_bit : ∀ (P : List (Nat × Nat)) (u : Nat → Nat) (x y : Nat), (upF P u x).testBit y = ((u x).testBit y || decide ((x, y) ∈ P))
  | [], u, x, y => by simp [upF]
  | p :: P, u, x, y => by
    have e : upF (p :: P) u = upF P (fun i => if i = p.1 then u p.1 ||| 2 ^ p.2 else u i) := rfl
    rw [e, upF_bit P]
    by_cases h : x = p.1
    · subst h
      rw [if_pos rfl, Nat.testBit_or, Nat.testBit_two_pow]
      have q : ((p.1, y) ∈ p :: P) ↔ (p.2 = y ∨ (p.1, y) ∈ P) := by
        rw [List.mem_cons, Prod.ext_iff]
        simp [eq_comm]
      simp [q, Bool.or_assoc]
    · rw [if_neg h]
      have q : ((x, y) ∈ p :: P) ↔ (x, y) ∈ P := by
        rw [List.mem_cons, Prod.ext_iff]
        simp [h]
      simp [q]
theorem upF_lt {P : List (Nat × Nat)} {n : Nat} (h : ∀ p ∈ P, p.2 < n) (x : Nat) : upF P (fun _ => 0) x < 2 ^ n := by
  apply Nat.lt_pow_two_of_testBit
  intro i hi
  rw [upF_bit]
  simp
  intro q
  have := h _ q
  simp at this
  omega

theorem bitsN_of {n m : Nat} (hn : n ≤ 64) (hm : m < 2 ^ n) : bitsN 64 m = bitsN n m := by
  refine asc_ext (bitsN_asc _ _) (bitsN_asc _ _) fun a => ?_
  rw [mem_bitsN, mem_bitsN]
  refine ⟨fun h => ⟨?_, h.2⟩, fun h => ⟨by omega, h.2⟩⟩
  rcases Nat.lt_or_ge a n with q | q
  · exact q
  · rw [Nat.testBit_lt_two_pow (Nat.lt_of_lt_of_le hm (Nat.pow_le_pow_right (by omega) q))] at h; cases h.2
/-- an order's pairs, ascending -/
def canon (n : Nat) (r : Nat → Nat → Bool) : List (Nat × Nat) := (List.range n).flatMap fun x => ((List.range n).filter fun y => r x y).map fun y => (x, y)
theorem mem_canon {n : Nat} {r : Nat → Nat → Bool} {x y : Nat} : (x, y) ∈ canon n r ↔ x < n ∧ y < n ∧ r x y = true := by
  unfold canon
  simp only [List.mem_flatMap, List.mem_range, List.mem_map, List.mem_filter]
  constructor
  · rintro ⟨a, h1, b, ⟨h2, h3⟩, e⟩
    cases e
    exact ⟨h1, h2, h3⟩
  · rintro ⟨h1, h2, h3⟩
    exact ⟨x, h1, y, ⟨h2, h3⟩, rfl⟩
theorem canon_congr {n : Nat} {r r' : Nat → Nat → Bool} (h : ∀ x y, x < n → y < n → r x y = r' x y) : canon n r = canon n r' := by
  unfold canon
  rw [List.flatMap_def, List.flatMap_def]
  congr 1
  refine List.map_congr_left fun x hx => ?_
  congr 1
  refine List.filter_congr fun y hy => ?_
  exact h x y (List.mem_range.mp hx) (List.mem_range.mp hy)
theorem canon_len (n : Nat) (r : Nat → Nat → Bool) : (canon n r).length ≤ n * n := by
  unfold canon
  have : ∀ l : List Nat, (l.flatMap fun x => ((List.range n).filter fun y => r x y).map fun y => (x, y)).length ≤ l.length * n := by
    intro l
    induction l with
    | nil => simp
    | cons a l ih =>
      rw [List.flatMap_cons, List.length_append, List.length_cons, Nat.succ_mul]
      have : (((List.range n).filter fun y => r a y).map fun y => (a, y)).length ≤ n := by
        rw [List.length_map]
        exact Nat.le_trans (List.length_filter_le _ _) (by simp)
      omega
  simpa using this (List.range n)
@[simp] theorem filter_tt {α : Type} (l : List α) : l.filter (fun _ => true) = l := List.filter_eq_self.mpr fun _ _ => rfl
/-! ### comprehensions that leave the store alone -/
theorem lcA_pure {α : Type} {s : Src} {g : GM} {ft : EM Bool} {fe : EM D} {env : En} {S : Sto} {mk v : α → D} {p : α → Bool} (hs : s.okAt S = true) : ∀ (L : List α) (acc : List D), acc.length + L.length ≤ bigN →
    (∀ a ∈ L, ∃ env1, g (mk a) env = some env1 ∧ ft env1 S = .ok (p a) S ∧ (p a = true → fe env1 S = .ok (v a) S)) → lcA s g ft fe env (L.map mk) acc S = .ok (acc ++ (L.filter p).map v) S
  | [], acc, _, _ => by
    rw [List.map_nil, lcA, if_pos hs]; simp
  | a :: L, acc, hb, h => by
    obtain ⟨env1, h1, h2, h3⟩ := h a List.mem_cons_self
    have hb' : acc.length + L.length + 1 ≤ bigN := by simp at hb; omega
    rw [List.map_cons, lcA, if_pos hs, h1]
    simp only [h2, Rs.nox_ok, Rs.bnd_ok]
    cases hp : p a with
    | false =>
      rw [if_neg (by decide), lcA_pure hs L acc (by omega) fun b hb => h b (List.mem_cons_of_mem _ hb), List.filter_cons_of_neg (by simp [hp])]
    | true =>
      rw [if_pos rfl, h3 hp]
      simp only [Rs.nox_ok, Rs.bnd_ok]
      rw [if_pos (by omega), lcA_pure hs L (acc ++ [v a]) (by simp; omega) fun b hb => h b (List.mem_cons_of_mem _ hb), List.filter_cons_of_pos hp, List.map_cons, List.append_assoc]
      rfl
theorem lcB_pure {α : Type} {s : Src} {g g1 : GM} {ft ft1 : EM Bool} {fi1 : EI} {fe : EM D} {vs1 : List Nat} {env : En} {S : Sto} {mk : α → D} {w : α → List D} {c : Nat} (hs : s.okAt S = true) : ∀ (L : List α) (acc : List D), acc.length + L.length * c ≤ bigN →
    (∀ a ∈ L, ∃ env1, g (mk a) env = some env1 ∧ ft env1 S = .ok true S ∧ ∃ s1, fi1 env1 S = .ok s1 S ∧ (w a).length ≤ c ∧ ∀ acc : List D, acc.length + c ≤ bigN → lcA s1 g1 ft1 fe (wipeE env1 vs1) s1.items acc S = .ok (acc ++ w a) S) →
    lcB s g ft fi1 g1 ft1 fe vs1 env (L.map mk) acc S = .ok (acc ++ L.flatMap w) S
  | [], acc, _, _ => by
    rw [List.map_nil, lcB, if_pos hs]; simp
  | a :: L, acc, hb, h => by
    obtain ⟨env1, h1, h2, s1, h3, h4, h5⟩ := h a List.mem_cons_self
    have hb' : acc.length + c + L.length * c ≤ bigN := by rw [List.length_cons, Nat.succ_mul] at hb; omega
    rw [List.map_cons, lcB, if_pos hs, h1]
    simp only [h2, Rs.nox_ok, Rs.bnd_ok, if_true, h3]
    rw [h5 acc (by omega)]
    simp only [Rs.bnd_ok]
    rw [lcB_pure hs L _ (by rw [List.length_append]; omega) fun b hb => h b (List.mem_cons_of_mem _ hb), List.flatMap_cons, List.append_assoc]

theorem Fof_next0 {N : List Str} {run : SM} {ds : List D} {S0 : Sto} {env : En} (h : run (startE N ds) S0 = .mk (.next env) S0) : Fof 0 N run ds S0 = .ok .non S0 := by
  unfold Fof
  rw [h]
  show fin0 _ _ _ _ = _
  unfold fin0 frz
  simp only []
  rw [if_pos (shut_self (d := .non) trivial), List.take_length]
theorem rangeD_n (n : Nat) : rangeD 0 (n : Int) = (List.range n).map dN := by
  unfold rangeD
  simp
  intro a _
  simp [dN]
theorem rangeD_nn (a b : Nat) : rangeD (a : Int) (b : Int) = (List.range' a (b - a)).map dN := by
  unfold rangeD
  rw [List.range'_eq_map_range, List.map_map, show ((b : Int) - (a : Int)).toNat = b - a by omega]
  refine List.map_congr_left fun j _ => ?_
  simp [dN]
theorem and_bit (m y : Nat) : (Builtin.bitAnd ((m : Int) / 2 ^ y) 1 != 0) = m.testBit y := by
  have e : (m : Int) / 2 ^ y = ((m / 2 ^ y : Nat) : Int) := by simp
  rw [e, show (1 : Int) = ((1 : Nat) : Int) from rfl, bAnd_nat, Nat.and_one_is_mod, Nat.testBit_eq_decide_div_mod_eq]
  by_cases h : m / 2 ^ y % 2 = 1
  · simp [h]
  · have : m / 2 ^ y % 2 = 0 := by omega
    simp [this]
def ptAt (l : List Nat) (i : Nat) : Nat := l.getD i 0
theorem ptAt_get {l : List Nat} {i : Nat} (h : i < l.length) : l[i]? = some (ptAt l i) := by
  simp [ptAt, h]
theorem ptAt_mem {l : List Nat} {i : Nat} (h : i < l.length) : ptAt l i ∈ l := by
  simp [ptAt, h]
theorem ptAt_I {l : List Nat} {i : Nat} (h : i < l.length) : L2.atI (l.map dN) (i : Int) = some (dN (ptAt l i)) := atI_nat (by rw [List.getElem?_map, ptAt_get h]; rfl)

/-! ### sorted pairs -/
def lexLe (p q : Int × Int) : Prop := p.1 < q.1 ∨ (p.1 = q.1 ∧ p.2 ≤ q.2)
theorem lexB_no {p q : Int × Int} (h : ¬ SrtO.lexB p q = true) : lexLe q p := by
  rw [SrtO.lexB_iff] at h
  unfold lexLe
  omega
def toI (p : Nat × Nat) : Int × Int := ((p.1 : Int), (p.2 : Int))
theorem canon_srt (n : Nat) (r : Nat → Nat → Bool) : (canon n r).Pairwise fun p q => p.1 < q.1 ∨ (p.1 = q.1 ∧ p.2 < q.2) := by
  unfold canon
  rw [List.flatMap_def]
  refine List.pairwise_flatten.mpr ⟨fun l hl => ?_, ?_⟩
  · obtain ⟨x, hx, rfl⟩ := List.mem_map.mp hl
    rw [List.pairwise_map]
    refine (List.Pairwise.filter _ List.pairwise_lt_range).imp fun {a b} h => .inr ⟨rfl, h⟩
  · rw [List.pairwise_map]
    refine List.pairwise_lt_range.imp fun {a b} h p hp q hq => ?_
    obtain ⟨y, _, rfl⟩ := List.mem_map.mp hp
    obtain ⟨z, _, rfl⟩ := List.mem_map.mp hq
    exact .inl h
theorem canon_nodup (n : Nat) (r : Nat → Nat → Bool) : (canon n r).Nodup := (canon_srt n r).imp fun {a b} h e => by subst e; omega
theorem sort_canon (n : Nat) (r : Nat → Nat → Bool) : sortP ((canon n r).map fun p => toI (p.2, p.1)) = (canon n fun x y => r y x).map toI := by
  have h1 : ((canon n fun x y => r y x).map toI).Pairwise lexLe := by
    rw [List.pairwise_map]
    refine (canon_srt n _).imp fun {a b} h => ?_
    unfold lexLe toI
    simp
    omega
  have h2 : ((canon n r).map fun p => toI (p.2, p.1)).Perm ((canon n fun x y => r y x).map toI) := by
    have inj : ∀ a b : Nat × Nat, toI a = toI b → a = b := fun a b e => by
      unfold toI at e
      simp at e
      exact Prod.ext (by omega) (by omega)
    refine (List.perm_ext_iff_of_nodup ?_ ?_).mpr fun a => ?_
    · refine List.Pairwise.map _ (fun a b h e => h ?_) (canon_nodup n r)
      have := inj _ _ e
      have t1 := congrArg Prod.fst this
      have t2 := congrArg Prod.snd this
      exact Prod.ext t2 t1
    · exact List.Pairwise.map _ (fun a b h e => h (inj _ _ e)) (canon_nodup n _)
    · simp only [List.mem_map]
      constructor
      · rintro ⟨⟨x, y⟩, h, rfl⟩
        have := mem_canon.mp h
        exact ⟨(y, x), mem_canon.mpr ⟨this.2.1, this.1, this.2.2⟩, rfl⟩
      · rintro ⟨⟨x, y⟩, h, rfl⟩
        have := mem_canon.mp h
        exact ⟨(y, x), mem_canon.mpr ⟨this.2.1, this.1, this.2.2⟩, rfl⟩
  refine ((sortP_perm _).trans h2).eq_of_pairwise (fun a b _ _ h h' => ?_) ((sortP_srt _).imp fun {a b} h => lexB_no (by simp [h])) h1
  unfold lexLe at h h'
  exact Prod.ext (by omega) (by omega)

/-- plain data of depth less than k -/
def Dat : Nat → D → Prop
  | 0, _ => False
  | k + 1, .tup ds => ds.length ≤ 1000000 ∧ ∀ d ∈ ds, Dat k d
  | k + 1, .lst ds => ds.length ≤ 1000000 ∧ ∀ d ∈ ds, Dat k d
  | _ + 1, .int _ => True
  | _ + 1, .non => True
  | _ + 1, .bl _ => True
  | _ + 1, _ => False
theorem dat_int (k : Nat) (i : Int) : Dat (k + 1) (.int i) := trivial
theorem dat_pD (k : Nat) (p : Nat × Nat) : Dat (k + 2) (pD p) := ⟨by simp, fun d hd => by
  simp at hd
  rcases hd with e | e <;> subst e <;> trivial⟩
theorem dat_ordD (k n : Nat) {P : List (Nat × Nat)} (h : P.length ≤ 1000000) : Dat (k + 4) (ordD n P) := ⟨by simp, fun d hd => by
  simp [ordD] at hd
  rcases hd with e | e <;> subst e
  · trivial
  · exact ⟨by simpa using h, fun d hd => by
      obtain ⟨p, _, e⟩ := List.mem_map.mp hd
      subst e
      exact dat_pD k p⟩⟩

theorem Fof_grow {N : List Str} {run : SM} {ds : List D} {S0 S1 : Sto} {d : D} (h : run (startE N ds) S0 = .mk (.ret d) S1) (hd : ¬ D.cl S0.length d) : Fof 0 N run ds S0 = .ok d S1 := by
  unfold Fof
  rw [h]
  show fin0 _ _ _ _ = _
  unfold fin0 frz
  simp only []
  rw [if_neg (fun q => hd q.2.1)]
/-- a def that changes one cell, and leaves others behind -/
theorem shut_boxL {S L : Sto} {ib : Nat} {c : C} {d : D} (hd : D.cl S.length d) (hc : C.cl S.length c) : Shut S d (S.set ib c ++ L) := by
  refine ⟨by simp, hd, fun n c' hn e => ?_⟩
  rw [List.getElem?_append_left (by simpa using hn), List.getElem?_set] at e
  by_cases h : ib = n
  · rw [if_pos h] at e
    split at e
    · cases e; exact .inr hc
    · cases e
  · rw [if_neg h] at e
    exact .inl e
theorem Fof_boxL {N : List Str} {run : SM} {ds : List D} {S0 L : Sto} {ib : Nat} {c : C} {d : D} (h : run (startE N ds) S0 = .mk (.ret d) (S0.set ib c ++ L)) (hd : D.cl S0.length d) (hc : C.cl S0.length c) : Fof 0 N run ds S0 = .ok d (S0.set ib c) := by
  rw [Fof_same h (by unfold frz; rfl) (shut_boxL hd hc)]
  rw [List.take_left' (by simp)]
theorem set_same {S : Sto} {ib : Nat} {c : C} (h : S[ib]? = some c) : S.set ib c = S := by
  apply List.ext_getElem?
  intro n
  rw [List.getElem?_set]
  by_cases e : ib = n
  · subst e
    rw [if_pos rfl, if_pos (List.getElem?_eq_some_iff.mp h).1, h]
  · rw [if_neg e]
theorem cl_D_N (k : Nat) (l : List Nat) : D.cl k (.lst (l.map dN)) := cls_map (fun k => clN _ _) l
theorem perm_erase : ∀ {l : List Nat} {j : Nat} (h : j < l.length), (l[j] :: l.eraseIdx j).Perm l
  | a :: l, 0, _ => .refl _
  | a :: l, j + 1, h => by
    have := perm_erase (l := l) (j := j) (by simpa using h)
    exact (List.Perm.swap a _ _).trans (this.cons a)
theorem erase_map : ∀ (l : List Nat) (j : Nat), (l.map dN).eraseIdx j = (l.eraseIdx j).map dN
  | [], _ => rfl
  | a :: l, 0 => rfl
  | a :: l, j + 1 => by rw [List.map_cons, List.eraseIdx_cons_succ, List.eraseIdx_cons_succ, List.map_cons, erase_map l j]
@[simp] theorem t3_0 (a b c : D) : L2.atI [a, b, c] 0 = some a := rfl
@[simp] theorem t3_1 (a b c : D) : L2.atI [a, b, c] 1 = some b := rfl
@[simp] theorem t3_2 (a b c : D) : L2.atI [a, b, c] 2 = some c := rfl
@[simp] theorem t2_0 (a b : D) : L2.atI [a, b] 0 = some a := rfl
@[simp] theorem t2_1 (a b : D) : L2.atI [a, b] 1 = some b := rfl
theorem if_t {c : EM Bool} {a b : SM} {env : En} {S S' : Sto} {r : Ss} (h : c env S = .ok true S') (h2 : a env S' = r) : zIfS c a b env S = r := by
  unfold zIfS; rw [h]; exact h2
theorem if_f {c : EM Bool} {a b : SM} {env : En} {S S' : Sto} {r : Ss} (h : c env S = .ok false S') (h2 : b env S' = r) : zIfS c a b env S = r := by
  unfold zIfS; rw [h]; exact h2
theorem seq_n {a b : SM} {env env' : En} {S S' : Sto} {r : Ss} (h : a env S = .mk (.next env') S') (h2 : b env' S' = r) : zSeq a b env S = r := by
  unfold zSeq; rw [h]; exact h2
theorem seq_r {a b : SM} {env : En} {S S' : Sto} {d : D} (h : a env S = .mk (.ret d) S') : zSeq a b env S = .mk (.ret d) S' := by
  unfold zSeq; rw [h]; rfl
theorem set_n {i : Nat} {a : EM D} {env : En} {S S' : Sto} {d : D} (h : a env S = .ok d S') : zSet i a env S = .mk (.next (env.set i (some d))) S' := by
  unfold zSet; rw [h]; rfl
@[simp] def u_zSeq := @zSeq.eq_def
@[simp] def u_zSet := @zSet.eq_def
@[simp] def u_zExpr := @zExpr.eq_def
@[simp] def u_zRet := @zRet.eq_def
@[simp] def u_zIfS := @zIfS.eq_def
@[simp] def u_zVar := @zVar.eq_def
@[simp] def u_zC := @zC.eq_def
@[simp] def u_zOp := @zOp.eq_def
@[simp] def u_zCons := @zCons.eq_def
@[simp] def u_zNil := @zNil.eq_def
@[simp] def u_zTup := @zTup.eq_def
@[simp] def u_zLst := @zLst.eq_def
@[simp] def u_zLstC := @zLstC.eq_def
@[simp] def u_zCall := @zCall.eq_def
@[simp] def u_zCallF := @zCallF.eq_def
@[simp] def u_zTru := @zTru.eq_def
@[simp] def u_truD := @truD.eq_def
@[simp] def u_zB := @zB.eq_def
@[simp] def u_zAnd := @zAnd.eq_def
@[simp] def u_zOr := @zOr.eq_def
@[simp] def u_zNot := @zNot.eq_def
@[simp] def u_zAndV := @zAndV.eq_def
@[simp] def u_zOrV := @zOrV.eq_def
@[simp] def u_zNotV := @zNotV.eq_def
@[simp] def u_zUn := @zUn.eq_def
@[simp] def u_zPut := @zPut.eq_def
@[simp] def u_zAug := @zAug.eq_def
@[simp] def u_zAugS := @zAugS.eq_def
@[simp] def u_zAsg := @zAsg.eq_def
@[simp] def u_zNext := @zNext.eq_def
@[simp] def u_zRetN := @zRetN.eq_def
@[simp] def u_zMethL := @zMethL.eq_def
@[simp] def u_isPtrL := @isPtrL.eq_def
@[simp] def u_zgName := @zgName.eq_def
@[simp] def u_zgTup := @zgTup.eq_def
@[simp] def u_zgCons := @zgCons.eq_def
@[simp] def u_zgNil := @zgNil.eq_def
@[simp] def u_zStk := @zStk.eq_def
@[simp] def u_dNeg := @dNeg.eq_def
@[simp] def u_dBits := @dBits.eq_def
@[simp] def u_dIx := @dIx.eq_def
@[simp] def u_dIsN := @dIsN.eq_def
@[simp] def u_anyOf := @anyOf.eq_def
@[simp] def u_seqOf := @seqOf.eq_def
@[simp] def u_dLen := @dLen.eq_def
@[simp] def u_dInt := @dInt.eq_def
@[simp] def u_dAbs := @dAbs.eq_def
@[simp] def u_dTuple := @dTuple.eq_def
@[simp] def u_stSet := @stSet.eq_def
@[simp] def u_ptrAt := @ptrAt.eq_def
@[simp] def u_dAppend := @dAppend.eq_def
@[simp] def u_dPopAt := @dPopAt.eq_def
@[simp] def u_popAt := @popAt.eq_def
@[simp] def u_startE := @startE.eq_def
@[simp] def u_zCallK := @zCallK.eq_def
end Z

namespace Z
open PySem L2
open PySem.Spec PyProof.Rows
variable [Tabs]

/-! ### masks less masks -/
theorem sub_mask : ∀ (m w : Nat), (∀ i, w.testBit i = true → m.testBit i = true) → w ≤ m ∧ ∀ i, (m - w).testBit i = (m.testBit i && !w.testBit i) := by
  intro m
  induction m using Nat.strongRecOn with | _ m ih =>
    intro w h
    rcases Nat.eq_zero_or_pos m with e | hm
    · subst e
      have : w = 0 := Nat.eq_of_testBit_eq fun i => by
        cases q : w.testBit i with
        | false => simp
        | true => have := h i q; simp at this
      subst this
      simp
    · obtain ⟨h1, h2⟩ := ih (m / 2) (by omega) (w / 2) fun i q => by
        have := h (i + 1) (by rw [Nat.testBit_succ]; exact q)
        rwa [Nat.testBit_succ] at this
      have h0 := h 0
      simp only [Nat.testBit_zero, decide_eq_true_eq] at h0
      refine ⟨by omega, fun i => ?_⟩
      cases i with
      | zero =>
        simp only [Nat.testBit_zero]
        by_cases q : w % 2 = 1
        · have := h0 q
          have e : (m - w) % 2 = 0 := by omega
          simp [e, q]
        · have e : (m - w) % 2 = m % 2 := by omega
          have q' : w % 2 = 0 := by omega
          simp [e, q']
      | succ i =>
        rw [Nat.testBit_succ, Nat.testBit_succ, Nat.testBit_succ, ← h2 i]
        congr 1
        by_cases q : w % 2 = 1
        · have := h0 q
          omega
        · omega
theorem and_not (m w : Nat) : ∃ v : Nat, Builtin.bitAnd (m : Int) (-(w : Int) - 1) = (v : Int) ∧ ∀ i, v.testBit i = (m.testBit i && !w.testBit i) := by
  obtain ⟨h1, h2⟩ := sub_mask m (m &&& w) fun i q => by rw [Nat.testBit_and] at q; simp at q; exact q.1
  refine ⟨m - (m &&& w), ?_, fun i => ?_⟩
  · have l : decide (0 ≤ (m : Int)) = true := by simp
    have l2 : decide (0 ≤ -(w : Int) - 1) = false := by simp; omega
    have e : (Builtin.bitNot (-(w : Int) - 1)).toNat = w := by unfold Builtin.bitNot; omega
    unfold Builtin.bitAnd
    simp only [e, l, l2]
    simp only [Int.toNat_natCast]
    omega
  · rw [h2, Nat.testBit_and]
    cases m.testBit i <;> simp
def uniF (u : Nat → Nat) (l : List Nat) : Nat := l.foldl (fun a x => a ||| u x) 0
theorem uni_bit (u : Nat → Nat) (i : Nat) : ∀ (l : List Nat) (a : Nat), (l.foldl (fun a x => a ||| u x) a).testBit i = (a.testBit i || l.any fun x => (u x).testBit i)
  | [], a => by simp
  | x :: l, a => by
    rw [List.foldl_cons, uni_bit u i l, Nat.testBit_or, List.any_cons, Bool.or_assoc]

/-! ### closures -/
def War (u : Nat → Nat) : Nat → Nat → Nat
  | 0, x => u x
  | k + 1, x => if (War u k x).testBit k = true then War u k x ||| War u k k else War u k x
theorem war_succ (u : Nat → Nat) (k x y : Nat) : (War u (k + 1) x).testBit y = ((War u k x).testBit y || ((War u k x).testBit k && (War u k k).testBit y)) := by
  rw [War]
  by_cases h : (War u k x).testBit k = true
  · rw [if_pos h, Nat.testBit_or, h, Bool.true_and]
  · rw [if_neg h]
    simp at h
    simp [h]
theorem war_mono (u : Nat → Nat) {k x y : Nat} (h : (War u k x).testBit y = true) : (War u (k + 1) x).testBit y = true := by rw [war_succ, h]; rfl
theorem war_in (u : Nat → Nat) {x y : Nat} (h : (u x).testBit y = true) : ∀ k, (War u k x).testBit y = true
  | 0 => h
  | k + 1 => war_mono u (war_in u h k)
theorem war_tr (u : Nat → Nat) : ∀ (k x j y : Nat), j < k → (War u k x).testBit j = true → (War u k j).testBit y = true → (War u k x).testBit y = true := by
  intro k
  induction k with
  | zero => intro x j y h; omega
  | succ k ih =>
    intro x j y hj h1 h2
    rw [war_succ] at h1 h2 ⊢
    simp only [Bool.or_eq_true, Bool.and_eq_true] at h1 h2 ⊢
    rcases Nat.lt_or_ge j k with hlt | hge
    · rcases h1 with h1 | ⟨h1, h1'⟩ <;> rcases h2 with h2 | ⟨h2, h2'⟩
      · exact .inl (ih x j y hlt h1 h2)
      · exact .inr ⟨ih x j k hlt h1 h2, h2'⟩
      · exact .inr ⟨h1, ih k j y hlt h1' h2⟩
      · exact .inr ⟨h1, h2'⟩
    · have e : j = k := by omega
      subst e
      have a1 : (War u j x).testBit j = true := by rcases h1 with h1 | h1 <;> first | exact h1 | exact h1.1
      have a2 : (War u j j).testBit y = true := by rcases h2 with h2 | h2 <;> first | exact h2 | exact h2.2
      exact .inr ⟨a1, a2⟩
theorem war_sound (u : Nat → Nat) {E : Nat → Nat → Prop} (hu : ∀ x y, (u x).testBit y = true → E x y) : ∀ (k x y : Nat), (War u k x).testBit y = true → Relation.TransGen E x y
  | 0, x, y, h => .single (hu x y h)
  | k + 1, x, y, h => by
    rw [war_succ] at h
    simp only [Bool.or_eq_true, Bool.and_eq_true] at h
    rcases h with h | ⟨h1, h2⟩
    · exact war_sound u hu k x y h
    · have a := war_sound u hu k x k h1
      have b := war_sound u hu k k y h2
      clear h1 h2
      induction b with
      | single e => exact a.tail e
      | tail _ e ih => exact ih.tail e
theorem war_full (u : Nat → Nat) {E : Nat → Nat → Prop} {n : Nat} (hu : ∀ x y, E x y → (u x).testBit y = true ∧ x < n) {x y : Nat} (h : Relation.TransGen E x y) : (War u n x).testBit y = true := by
  induction h with
  | single e => exact war_in u (hu _ _ e).1 n
  | tail _ e ih => exact war_tr u n _ _ _ (hu _ _ e).2 ih (war_in u (hu _ _ e).1 n)
theorem war_lt (u : Nat → Nat) {n : Nat} (h : ∀ x, u x < 2 ^ n) : ∀ k x, War u k x < 2 ^ n
  | 0, x => h x
  | k + 1, x => by
    rw [War]
    split
    · exact Nat.or_lt_two_pow (war_lt u h k x) (war_lt u h k k)
    · exact war_lt u h k x

/-! ### ascending pairs -/
def lexLt (p q : Nat × Nat) : Prop := p.1 < q.1 ∨ (p.1 = q.1 ∧ p.2 < q.2)
theorem lex_ext {l l' : List (Nat × Nat)} (h : l.Pairwise lexLt) (h' : l'.Pairwise lexLt) (e : ∀ a, a ∈ l ↔ a ∈ l') : l = l' := by
  have nd : ∀ {l : List (Nat × Nat)}, l.Pairwise lexLt → l.Nodup := fun h => h.imp fun {a b} h q => by subst q; unfold lexLt at h; omega
  refine ((List.perm_ext_iff_of_nodup (nd h) (nd h')).mpr e).eq_of_pairwise (fun a b _ _ h1 h2 => ?_) h h'
  unfold lexLt at h1 h2
  omega
theorem canon_lex (n : Nat) (r : Nat → Nat → Bool) : (canon n r).Pairwise lexLt := canon_srt n r
end Z

namespace Z
open PySem L2
open PySem.Spec PyProof.Rows
variable [Tabs]

/-! ### data of pairs and orders -/
def pP (p : Nat × Nat) : PyData := .tuple [.int p.1, .int p.2]
theorem toP_pD (S : Sto) (p : Nat × Nat) : toP S (pD p) = some (pP p) := rfl
theorem toPs_pD (S : Sto) : ∀ l : List (Nat × Nat), toPs S (l.map pD) = some (l.map pP)
  | [] => rfl
  | p :: l => by rw [List.map_cons, List.map_cons, toPs, toP_pD, toPs_pD S l]
theorem toP_N (S : Sto) (k : Nat) : toP S (dN k) = some (.int k) := rfl
def nP (k : Nat) : PyData := .int k
theorem toPs_N (S : Sto) : ∀ l : List Nat, toPs S (l.map dN) = some (l.map nP)
  | [] => rfl
  | p :: l => by rw [List.map_cons, List.map_cons, toPs, toP_N, toPs_N S l]; rfl
theorem eqv_pP (p q : Nat × Nat) : PyData.eqv (pP p) (pP q) = decide (p = q) := by
  rw [Bool.eq_iff_iff]
  simp [pP, PyData.eqv, PyData.eqvAll, Prod.ext_iff]
  omega
theorem eqvAll_pP : ∀ l l' : List (Nat × Nat), PyData.eqvAll (l.map pP) (l'.map pP) = decide (l = l')
  | [], [] => rfl
  | [], q :: l' => rfl
  | p :: l, [] => rfl
  | p :: l, q :: l' => by
    rw [List.map_cons, List.map_cons, PyData.eqvAll, eqv_pP, eqvAll_pP l l', Bool.eq_iff_iff]
    simp
def oP (n : Nat) (P : List (Nat × Nat)) : PyData := .tuple [.int n, .tuple (P.map pP)]
theorem toP_ord (S : Sto) (n : Nat) (P : List (Nat × Nat)) : toP S (ordD n P) = some (oP n P) := by
  simp [ordD, toP, toPs, toPs_pD, dN, oP]
theorem eqv_oP (n m : Nat) (P Q : List (Nat × Nat)) : PyData.eqv (oP n P) (oP m Q) = decide (n = m ∧ P = Q) := by
  rw [Bool.eq_iff_iff]
  simp [oP, PyData.eqv, PyData.eqvAll, eqvAll_pP]
  omega
theorem lay_pP : ∀ l : List (Nat × Nat), PyData.canLayAll0 (l.map pP) = true ∧ PyData.depthAll (l.map pP) ≤ 3
  | [] => by simp [PyData.canLayAll0, PyData.depthAll]
  | p :: l => by
    obtain ⟨h1, h2⟩ := lay_pP l
    have h3 : (pP p).canLay0 = true := by simp [pP, PyData.canLay0, PyData.canLayAll0]
    have h4 : (pP p).depth ≤ 3 := by simp [pP, PyData.depth, PyData.depthAll]
    simp only [List.map_cons, PyData.canLayAll0, PyData.depthAll, h1, h3]
    exact ⟨rfl, Nat.max_le.mpr ⟨h4, h2⟩⟩
theorem sh_pP (p : Nat × Nat) : SeqAt.shaped (pP p) = true := by
  unfold SeqAt.shaped
  simp [pP, PyData.canLay0, PyData.canLayAll0, PyData.depth, PyData.depthAll]
theorem sh_pPs (l : List (Nat × Nat)) : SeqAt.shaped (.list (l.map pP)) = true := by
  obtain ⟨h1, h2⟩ := lay_pP l
  unfold SeqAt.shaped
  simp only [PyData.canLay0, PyData.depth, h1, Bool.true_and]
  exact (decide_eq_true (by omega))
theorem sh_oP (n : Nat) (l : List (Nat × Nat)) : SeqAt.shaped (oP n l) = true := by
  obtain ⟨h1, h2⟩ := lay_pP l
  unfold SeqAt.shaped
  simp only [oP, PyData.canLay0, PyData.canLayAll0, PyData.depth, PyData.depthAll, h1, Bool.true_and, Bool.and_true, decide_eq_true_eq]
  exact Nat.succ_le_succ (Nat.max_le.mpr ⟨by omega, Nat.max_le.mpr ⟨by omega, by omega⟩⟩)
theorem sh_N (k : Nat) : SeqAt.shaped (.int (k : Int)) = true := by
  unfold SeqAt.shaped
  simp [PyData.canLay0, PyData.depth]
theorem sh_Ns (l : List Nat) : SeqAt.shaped (.list (l.map nP)) = true := by
  have : ∀ l : List Nat, PyData.canLayAll0 (l.map nP) = true ∧ PyData.depthAll (l.map nP) ≤ 2 := by
    intro l
    induction l with
    | nil => simp [PyData.canLayAll0, PyData.depthAll]
    | cons p l ih =>
      simp only [List.map_cons, nP, PyData.canLayAll0, PyData.depthAll, PyData.canLay0, PyData.depth]
      exact ⟨by rw [ih.1]; rfl, Nat.max_le.mpr ⟨by omega, ih.2⟩⟩
  unfold SeqAt.shaped
  simp only [PyData.canLay0, PyData.depth, (this l).1, Bool.true_and]
  have := (this l).2
  exact (decide_eq_true (by omega))
/-- x in pairs -/
theorem in_pairs {neg : Bool} {y : D} {S : Sto} {l : List (Nat × Nat)} (h : anyOf y S = some (l.map pD)) (p : Nat × Nat) : inD neg (pD p) y S = .ok (.bl (if neg = true then !decide (p ∈ l) else decide (p ∈ l))) S := by
  have e : ((l.map pP).any fun z => PyData.eqv z (pP p)) = decide (p ∈ l) := by
    rw [Bool.eq_iff_iff]
    simp [eqv_pP]
  unfold inD
  rw [toP_pD, h, Option.bind_some, toPs_pD]
  simp only [sh_pP, sh_pPs, and_self, if_true, e]
theorem in_nats {neg : Bool} {y : D} {S : Sto} {l : List Nat} (h : anyOf y S = some (l.map dN)) (p : Nat) : inD neg (dN p) y S = .ok (.bl (if neg = true then !decide (p ∈ l) else decide (p ∈ l))) S := by
  have e : ((l.map nP).any fun z => PyData.eqv z (.int (p : Int))) = decide (p ∈ l) := by
    rw [Bool.eq_iff_iff]
    simp [nP, PyData.eqv]
    exact ⟨fun ⟨x, h1, h2⟩ => by rw [← show x = p by omega]; exact h1, fun h => ⟨p, h, rfl⟩⟩
  unfold inD
  rw [toP_N, h, Option.bind_some, toPs_N]
  simp only [sh_N, sh_Ns, and_self, if_true, e]
theorem eq_ord (n m : Nat) (P Q : List (Nat × Nat)) (S : Sto) : dEq (ordD n P) (ordD m Q) S = .ok (.bl (decide (n = m ∧ P = Q))) S := by
  show dEqD false (ordD n P) (ordD m Q) S = _
  unfold dEqD
  rw [toP_ord, toP_ord]
  simp only [sh_oP, and_self, if_true, eqv_oP]
  rfl
/-! ### sorted links -/
theorem sort_nat (l : List (Nat × Nat)) : ∃ ls : List (Nat × Nat), (sortP (l.map toI)).map Z.pairD = ls.map pD ∧ ls.Perm l ∧ ls.Pairwise fun p q => p = q ∨ lexLt p q := by
  have hb : ∀ p ∈ sortP (l.map toI), toI (p.1.toNat, p.2.toNat) = p := fun p hp => by
    obtain ⟨q, _, e⟩ := List.mem_map.mp ((sortP_perm _).mem_iff.mp hp)
    subst e
    simp [toI]
  refine ⟨(sortP (l.map toI)).map fun p => (p.1.toNat, p.2.toNat), ?_, ?_, ?_⟩
  · rw [List.map_map]
    refine List.map_congr_left (fun p hp => ?_)
    have := hb p hp
    show Z.pairD p = pD (p.1.toNat, p.2.toNat)
    rw [← this]
    simp [Z.pairD, pD, toI, dN]
  · have := (sortP_perm (l.map toI)).map fun p : Int × Int => (p.1.toNat, p.2.toNat)
    rw [List.map_map] at this
    simpa [toI, Function.comp_def] using this
  · rw [List.pairwise_map]
    refine ((List.Pairwise.and_mem.mp (sortP_srt (l.map toI))).imp fun {p q} h => ?_)
    obtain ⟨h1, h2, h3⟩ := h
    have a := hb p h1
    have b := hb q h2
    have c := lexB_no (p := q) (q := p) (by rw [h3]; simp)
    rw [← a, ← b] at c
    unfold lexLe toI at c
    unfold lexLt
    simp only [Prod.mk.injEq] at c ⊢
    omega
end Z

/-! G1: generator expressions over anything that PI serves. -/
namespace G
open PySem L2 GenW GxR
open PySem.Spec PyProof.Rows

/-- the code of a generator expression, its loop under way -/
abbrev gLoop (elt tg iter : Expr) (ifs : List Expr) (scope : Scope) (pos : Pos) (it : Addr) (env : Env) : Code := .compLoop (.GeneratorExp elt [⟨tg, iter, ifs, 0⟩] scope pos) 0 (.ref it) .none env
abbrev gStart (elt tg iter : Expr) (ifs : List Expr) (scope : Scope) (pos : Pos) (it : Addr) (env : Env) : Code := .compStart (.GeneratorExp elt [⟨tg, iter, ifs, 0⟩] scope pos) 0 (.ref it) .none env
/-- the frame of the generator lies straight over its maker's -/
theorem over_loopG {A : Around} {elt tg iter : Expr} {ifs : List Expr} {scope : Scope} {pos : Pos} {it : Addr} {env : Env} : A.over (gLoop elt tg iter ifs scope pos it env) [] = A.deeper env := rfl
section
variable {M : Model} {A A' : Around} {R : GenEnd} {Y : Protocol} {n : Nat} {s₀ s : Shared} {c : Code} {α β γ : Type} {t : Sem α}
/-- one step of a frame, the rest behind it -/
theorem step1 {K : α → Sem β} {K' : β → Sem PySem.Fin} {H' : Value → Sem PySem.Fin} {gd : Bool → Bool} {lv : List Value → List Value} (ov : A.over c [] = A') (h : wpAny M A' t (fun a s' => Seg M A R Y n s₀ c (Sem.wrap K' H' gd lv (K a)) [] s') (fun x s' => Seg M A R Y n s₀ c (H' x) [] s') s) :
    Seg M A R Y n s₀ c (Sem.wrap K' H' gd lv (t >>= K)) [] s := seg_bind_wrap (ov ▸ h)
/-- one step of two that are bound twice -/
theorem step2 {J : α → Sem β} {K : β → Sem γ} {K' : γ → Sem PySem.Fin} {H' : Value → Sem PySem.Fin} {gd : Bool → Bool} {lv : List Value → List Value} (ov : A.over c [] = A')
    (h : wpAny M A' t (fun a s' => Seg M A R Y n s₀ c (Sem.wrap (fun b => Sem.wrap K' H' gd lv (K b)) (fun e => Sem.wrap K' H' gd lv (Sem.raise e)) (fun g => gd (id g)) (fun l => lv (id l)) (J a)) [] s') (fun x s' => Seg M A R Y n s₀ c (Sem.wrap (fun b => Sem.wrap K' H' gd lv (K b)) (fun e => Sem.wrap K' H' gd lv (Sem.raise e)) (fun g => gd (id g)) (fun l => lv (id l)) (Sem.raise x)) [] s') s) :
    Seg M A R Y n s₀ c (Sem.wrap K' H' gd lv ((t >>= J) >>= K)) [] s := by
  rw [Sem.bind_eq_wrap' (t >>= J) K, Sem.wrap_wrap (t >>= J)]
  exact step1 ov h
end

/-- the context of a generator expression's frame -/
abbrev gx (X : Cx) (s : Shared) (H : Hp) (A : Around) (cenv : Env) (fp : List Addr) (pn : List (Addr × Obj)) : Cx :=
  { X with s_0 := s, H_0 := H, A := A, env := cenv, outer := X.stack, stack := cenv :: X.stack, ex := fp, fn := fun _ => false, pn := pn, xe := fun _ _ => False }

/-- who consumes: what it pins when acc is out; what it does while the generator sleeps -/
structure Con (X : Cx) (fp : List Addr) where
  CP : List V → List (Addr × Obj) → Prop
  Wk : Value → Shared → Shared → Prop
  nfp : ∀ acc pins, CP acc pins → ∀ p ∈ pins, p.1 ∉ fp
  ok : ∀ acc y v pins σ H s s', CP acc pins → RelV y v → Inv X pins σ H s → Wk v s s' → ∃ pins', CP (acc ++ [y]) pins' ∧ Inv X pins' σ H s' ∧ ∀ b ∈ fp, ∀ o, s.heap.get? b = some o → s'.heap.get? b = some o

section
variable {X : Cx} {fp : List Addr}
def PG1 (Cn : Con X fp) (fin : List V → Hp → Prop) (n : Nat) (s₀ s : Shared) : Prop := ∃ acc pins σ H, n + acc.length = sizeLine ∧ Cn.CP acc pins ∧ Inv X pins σ H s ∧ fin acc H
def RG (Cn : Con X fp) (fin : List V → Hp → Prop) : GenEnd := fun n s₀ r s => r = .ok .next ∧ PG1 Cn fin n s₀ s
def YG (Cn : Con X fp) (stp : V → Option Bool) (cut : Hp → Prop) : Protocol := fun n s₀ v s kap =>
  ∃ acc pins y σ H, n + 1 + acc.length = sizeLine ∧ RelV y v ∧ Cn.CP acc pins ∧ Inv X pins σ H s ∧
    ((stp y = some false ∧ ∀ s', Cn.Wk v s s' → kap (.send .none) s') ∨ (stp y = some true ∧ cut H))

/-- what the loop is to keep -/
def GTurns (J : It) (g : TG) (tt : TT) (te : TE) (stp : V → Option Bool) (σ0 : L2.St) (vs : List Nat) (W : Nat → Nat → List V → Hp → Prop) (fin : List V → Hp → Prop) (cut : Hp → Prop) : Prop := ∀ i m acc H, W i m acc H →
  (J.stop i H ∧ fin acc H) ∨ (J.go i H ∧ ∃ Nx : List V → Hp → Prop, (∀ acc' H', Nx acc' H' → ∃ m', m' < m ∧ W (i + 1) m' acc' H') ∧ ∀ x H', J.yld i H x H' → g x σ0 H' fun σ2 H2 => wipe σ2 vs = σ0 ∧ tt σ2 H2 fun b H3 =>
    if b = true then te σ2 H3 fun y H4 => acc.length < sizeLine ∧ ((stp y = some false ∧ Nx (acc ++ [y]) H4) ∨ (stp y = some true ∧ cut H4)) else Nx acc H3)

/-- where the loop stands ahead of turn i -/
def LpAt (Cn : Con X fp) (tn : Nat → Heap → Prop) (σ0 : L2.St) (W : Nat → Nat → List V → Hp → Prop) (i m n : Nat) (acc : List V) (s : Shared) : Prop :=
  n + acc.length = sizeLine ∧ ∃ pins H, Cn.CP acc pins ∧ Inv X pins σ0 H s ∧ tn i s.heap ∧ (∀ b ∈ fp, H b = none) ∧ W i m acc H
/-- the walked things' places stay apart from what the frame has -/
theorem Con.apart (Cn : Con X fp) {pins : List (Addr × Obj)} {acc : List V} {σ' : L2.St} {H' : Hp} {s' : Shared} (hex : X.ex = fp) (hpn : ∀ p ∈ X.pn, p.1 ∉ fp) (hcp : Cn.CP acc pins) (I' : Inv X pins σ' H' s') (hn : ∀ b ∈ fp, H' b = none) : ∀ b ∈ fp, FpOk X pins H' b := by
  subst hex
  intro b hb
  have hx := I'.ok.exf b hb
  exact ⟨hn b hb, hx.1, I'.ok.exfs b hb, .inl hb, fun x c e => hx.2 x c e, fun p hp z => (List.mem_append.mp hp).elim (fun q => hpn p q (z ▸ hb)) fun q => Cn.nfp acc pins hcp p q (z ▸ hb)⟩
section
variable {A : Around} {Cn : Con X fp} {stp : V → Option Bool} {cut : Hp → Prop} {fin : List V → Hp → Prop} {elt tg iter : Expr} {ifs : List Expr} {scope : Scope} {pos : Pos} {it : Addr} {tn : Nat → Heap → Prop} {J : It} {g : TG} {tt : TT} {te : TE} {σ0 : L2.St} {vs : List Nat} {W : Nat → Nat → List V → Hp → Prop}
/-- what is asked of the frame -/
structure LpOk (A : Around) (X : Cx) (fp : List Addr) (elt tg iter : Expr) (ifs : List Expr) (it : Addr) (tn : Nat → Heap → Prop) (J : It) (g : TG) (tt : TT) (te : TE) (σ0 : L2.St) (vs : List Nat) : Prop where
  noX : ∀ e s, X.xe e s → False
  ov : X.A = A.deeper X.env
  calm : X.calm = true
  ex : X.ex = fp
  pn : ∀ p ∈ X.pn, p.1 ∉ fp
  co : X.env.scope.isCoroutine = false
  tu : Turn X.prog X.w X.K tg J fp it tn
  pg : PG X tg g
  pt : PTs X ifs tt
  pe : PE X elt te
  wp : ∀ σ : L2.St, wipe σ vs = σ0 → ∀ (i : Nat) (v : V), σ0[i]? = some (some v) → σ[i]? = some (some v)
  len : σ0.length = X.N.length
/-- no error comes out of the frame's own steps -/
theorem LpOk.calmly (L : LpOk A X fp elt tg iter ifs it tn J g tt te σ0 vs) {α : Type} {t : Sem α} {Q Q' : α → Shared → Prop} {E : Value → Shared → Prop} {s : Shared} (h : wpAny (model X.prog X.w) X.A t Q X.xe s) (hQ : ∀ a s, Q a s → Q' a s) : wpAny (model X.prog X.w) X.A t Q' E s :=
  wpAny_mono h hQ fun e s z => absurd z fun z => L.noX e s z
/-- behind a turn: the walked things stand where the next turn wants them -/
theorem LpOk.after (L : LpOk A X fp elt tg iter ifs it tn J g tt te σ0 vs) {pins : List (Addr × Obj)} {i : Nat} {sb s' : Shared} {σ' : L2.St} {H' : Hp} (st : tn (i + 1) sb.heap) (hw : wipe σ' vs = σ0) (I' : Inv X (pins ++ pinsAt fp sb.heap) σ' H' s') : Inv X pins σ0 H' s' ∧ tn (i + 1) s'.heap ∧ ∀ b ∈ fp, H' b = none := by
  have same : ∀ b ∈ fp, ∀ o, sb.heap.get? b = some o → s'.heap.get? b = some o ∧ H' b = none := by
    intro b hb o e
    obtain ⟨p1, p2, _⟩ := I'.pin (b, o) (List.mem_append.mpr (.inr (List.mem_append.mpr (.inr (mem_pinsAt hb e)))))
    exact ⟨p1, p2⟩
  refine ⟨I'.unpinned.weak (by rw [L.len, ← I'.len]) (L.wp σ' hw), L.tu.keep _ _ _ st fun b hb o e => (same b hb o e).1, ?_⟩
  intro b hb
  have ho := L.tu.obj _ _ st b hb
  exact (same b hb ho.choose ho.choose_spec.1).2
/-- one turn, what comes behind it told by nxt -/
theorem seg_turn (L : LpOk A X fp elt tg iter ifs it tn J g tt te σ0 vs) (turn : GTurns J g tt te stp σ0 vs W fin cut) {i m n : Nat} {acc : List V} {s₀ s : Shared}
    (nxt : ∀ m', m' < m → ∀ (i n : Nat) (acc : List V) (s₀ s : Shared), LpAt Cn tn σ0 W i m' n acc s → Seg (model X.prog X.w) A (RG Cn fin) (YG Cn stp cut) n s₀ (gLoop elt tg iter ifs scope pos it X.env) ((model X.prog X.w).den (gLoop elt tg iter ifs scope pos it X.env)) [] s)
    (at0 : LpAt Cn tn σ0 W i m n acc s) : Seg (model X.prog X.w) A (RG Cn fin) (YG Cn stp cut) n s₀ (gLoop elt tg iter ifs scope pos it X.env) ((model X.prog X.w).den (gLoop elt tg iter ifs scope pos it X.env)) [] s := by
  obtain ⟨hn, pins, H, hcp, I, st, nn, w⟩ := at0
  have ov : A.over (gLoop elt tg iter ifs scope pos it X.env) [] = X.A := over_loopG.trans L.ov.symm
  have ap := Cn.apart L.ex L.pn hcp I nn
  show Seg _ A _ _ _ s₀ _ ((compTurn (.GeneratorExp elt [⟨tg, iter, ifs, 0⟩] scope pos) 0 (.ref it) .none X.env).onRaise (leaving X.env)) [] s
  have unf := compTurn_gen elt tg iter ifs scope pos (.ref it) .none X.env
  rw [unf, Sem.onRaise_eq_wrap]
  refine step1 ov (wpAny_standAt (step1 ov ?_))
  rcases turn i m acc H w with ⟨stop, q⟩ | ⟨go, Nx, hNx, body⟩
  · refine thnF (L.tu.done X rfl rfl rfl L.calm i pins s σ0 H (fun _ _ => False) I ap st stop) ?_
    rintro r se ⟨rfl, Ie⟩
    exact seg_end (.ok .next) ⟨rfl, acc, pins, σ0, H, hn, hcp, Ie, q⟩
  · refine thnF (L.tu.item X rfl rfl rfl L.calm i pins s σ0 H (fun _ _ => False) I ap st go) ?_
    rintro r sa ⟨u, rfl, ha⟩
    refine step1 ov (thnF ha ?_)
    rintro - sb ⟨x, Hb, Ib, rb, yb, stb, nb⟩
    refine step1 ov (L.calmly (L.pg.run _ sb _ Hb x u _ (Ib.pinned (Cn.apart L.ex L.pn hcp Ib nb) (L.tu.obj _ _ stb)) rb (body x Hb yb)) ?_)
    rintro - sc ⟨σc, Hc, Ic, hw, qc⟩
    refine step1 ov (L.calmly (L.pt.run _ sc σc Hc _ Ic qc) ?_)
    rintro ok sd ⟨Hd, Id, qd⟩
    cases ok with
    | false =>
      rw [if_neg Bool.false_ne_true] at qd ⊢
      obtain ⟨K1, K2, K3⟩ := L.after stb hw Id
      obtain ⟨m', hm, w'⟩ := hNx acc Hd qd
      exact seg_again rfl (nxt m' hm (i + 1) n acc s₀ sd ⟨hn, pins, Hd, hcp, K1, K2, K3, w'⟩)
    | true =>
      rw [if_pos rfl] at qd ⊢
      have yo : yieldOut X.env = yieldValue := by
        funext v
        unfold yieldOut
        rw [L.co]
        rfl
      rw [yo]
      refine step2 ov (L.calmly (L.pe.run _ sd σc Hd _ Id qd) ?_)
      rintro z se ⟨yv, He, Ie, re, hlt, alt⟩
      cases n with
      | zero => omega
      | succ n =>
        obtain ⟨K1, K2, K3⟩ := L.after stb hw Ie
        refine seg_at (seg_yield rfl rfl rfl ⟨acc, pins, yv, σ0, He, hn, re, hcp, K1, ?_⟩)
        refine alt.elim (fun ⟨hs, nx⟩ => .inl ⟨hs, fun s' hwk => ?_⟩) fun ⟨hs, hcut⟩ => .inr ⟨hs, hcut⟩
        obtain ⟨m', hm, w'⟩ := hNx _ He nx
        obtain ⟨pins', hcp', I', kp⟩ := Cn.ok acc yv z pins σ0 He se s' hcp re K1 hwk
        exact seg_again rfl (nxt m' hm (i + 1) n (acc ++ [yv]) s' s' ⟨by rw [List.length_append, List.length_singleton]; omega, pins', He, hcp', I', L.tu.keep _ _ _ K2 kp, K3, w'⟩)
theorem seg_gloop (L : LpOk A X fp elt tg iter ifs it tn J g tt te σ0 vs) (turn : GTurns J g tt te stp σ0 vs W fin cut) (m : Nat) :
    ∀ (i n : Nat) (acc : List V) (s₀ s : Shared), LpAt Cn tn σ0 W i m n acc s → Seg (model X.prog X.w) A (RG Cn fin) (YG Cn stp cut) n s₀ (gLoop elt tg iter ifs scope pos it X.env) ((model X.prog X.w).den (gLoop elt tg iter ifs scope pos it X.env)) [] s :=
  Nat.strongRecOn m fun _ ih _ _ _ _ _ h => seg_turn L turn (fun m' hm i n acc s₀ s => ih m' hm i n acc s₀ s) h
end
theorem seg_gstart {A : Around} {R : GenEnd} {Y : Protocol} {n : Nat} {s₀ s : Shared} {elt tg iter : Expr} {ifs : List Expr} {scope : Scope} {pos : Pos} {it : Addr} {env : Env} {prog : Program} {w : World} {tn : Nat → Heap → Prop} {J : It} {K : PySem.W.Frag}
    (T : Turn prog w K tg J fp it tn) (st : tn 0 s.heap)
    (loop : Seg (model prog w) A R Y n s₀ (gLoop elt tg iter ifs scope pos it env) ((model prog w).den (gLoop elt tg iter ifs scope pos it env)) [] s) :
    Seg (model prog w) A R Y n s₀ (gStart elt tg iter ifs scope pos it env) ((model prog w).den (gStart elt tg iter ifs scope pos it env)) [] s := by
  have go := seg_again (c := gStart elt tg iter ifs scope pos it env) (c' := gLoop elt tg iter ifs scope pos it env) rfl loop
  show Seg _ A _ _ _ s₀ _ ((compStart (.GeneratorExp elt [⟨tg, iter, ifs, 0⟩] scope pos) 0 (.ref it) .none env).onRaise (leaving env)) [] s
  rw [compStart, Sem.onRaise_eq_wrap]
  refine step1 rfl (wpAny_askSetting ?_)
  split
  · exact go
  · exact step1 rfl (wpAny_rule (step1 rfl (wpAny_standAt (step1 rfl (T.self _ 0 s _ _ st go)))))
end
end G

namespace G
open PySem L2 GenW GxR
open PySem.Spec PyProof.Rows
section
variable {X : Cx} {pins : List (Addr × Obj)} {σ : L2.St} {H : Hp} {s : Shared} {scope : Scope} {own : List (Str × Nat)}
abbrev gEnv (X : Cx) (scope : Scope) (C : Addr) (code : Value) : Env := genEnv scope (cloFrom X.env.cells scope.names []) C code builtinsNs X.env
/-! ### the cells that the frame takes over from its maker -/
theorem free_cell (I : Inv X pins σ H s) (ok : BlkOk X.N X.env.scope scope own) : ∀ y ∈ scope.names, y.2 = .free → ∃ c, X.env.cells.lookup y.1 = some c :=
  fun y hy e => (ok.free y hy e).elim (fun q => I.ok.has _ (.inl q)) fun q => I.ok.has _ (.inr q)
theorem took (I : Inv X pins σ H s) (ok : BlkOk X.N X.env.scope scope own) {y : Str} {c : Addr} (h : (y, c) ∈ cloFrom X.env.cells scope.names []) : X.env.cells.lookup y = some c ∧ c < s.heap.objs.size := by
  cases cloFrom_mem h with
  | inl q => exact absurd q List.not_mem_nil
  | inr q =>
    obtain ⟨hy, rfl⟩ := q
    have hc := free_cell I ok _ hy rfl
    have e := hc.choose_spec
    rw [e]
    exact ⟨rfl, (I.cell _ _ e).choose_spec.lt⟩
theorem taken (I : Inv X pins σ H s) (ok : BlkOk X.N X.env.scope scope own) {y : Str} (hl : scope.names.lookup y = some .free) : ∃ c, (cloFrom X.env.cells scope.names []).lookup y = some c ∧ X.env.cells.lookup y = some c := by
  have q := mem_lookup (cloFrom_has (cells := X.env.cells) (acc := []) (PySem.mem_of_lookup hl))
  exact ⟨_, q.choose_spec, (took I ok (PySem.mem_of_lookup q.choose_spec)).1⟩
/-- names that the wiping leaves a value are the maker's -/
theorem kept_free (ok : BlkOk X.N X.env.scope scope own) (hN : X.N.Nodup) {i : Nat} {y : Str} (e1 : X.N[i]? = some y) (hne : i ∉ own.map (·.2)) (e3 : scope.names.lookup y = some .local ∨ scope.names.lookup y = some .cell ∨ scope.names.lookup y = some .free) : scope.names.lookup y = some .free := by
  have not : ∀ k, scope.names.lookup y = some k → k = .local ∨ k = .cell → False := fun k e hk => by
    cases ok.own _ (PySem.mem_of_lookup e) hk with
    | inl q =>
      rw [List.mem_map] at q
      obtain ⟨⟨y', j⟩, hp, rfl⟩ := q
      exact hne (List.mem_map.mpr ⟨_, hp, nodup_ix hN (ok.ix _ hp) e1⟩)
    | inr q => exact q (List.mem_of_getElem? e1)
  exact e3.elim (fun e => (not _ e (.inl rfl)).elim) fun e3 => e3.elim (fun e => (not _ e (.inr rfl)).elim) id
section
variable {fp : List Addr} {code : Value} {A : Around} {s5 : Shared} {m0 : Str → Option Value} {a : Addr} {go : Obj}
theorem gx_ok (I : Inv X pins σ H s) (ok : BlkOk X.N X.env.scope scope own) (hcell : ∀ y ∈ scope.names, y.2 ≠ .cell) (hfp : ∀ b ∈ fp, FpOk X pins H b ∧ b < s.heap.objs.size) (hA : A.handled = none) (hF : A.frames = some (gEnv X scope s.heap.objs.size code :: X.stack)) : (gx X s H A (gEnv X scope s.heap.objs.size code) fp [(a, go)]).Ok := by
  have sees : ∀ {y c}, (cloFrom X.env.cells scope.names []).lookup y = some c → X.env.cells.lookup y = some c := fun e => (took I ok (PySem.mem_of_lookup e)).1
  refine ⟨I.ok.mod, ok.kind, I.ok.glob, rfl, Nat.le_refl _, fun y z c e1 e2 => I.ok.inj y z c (sees e1) (sees e2), fun y hy => ?_, fun y c z e => absurd z (by simp), fun _ => hA, hF, .inr ⟨rfl, rfl⟩, fun b hb => ⟨Nat.ne_of_lt (hfp b hb).2, fun y c e => (hfp b hb).1.2.2.2.2.1 y c (sees e)⟩, I.bs, Nat.le_trans I.ok.bsz I.sz, fun b o e hb => ?_, fun b hb z => ?_, I.stack, I.stkFree⟩
  · cases hy with
    | inl e => exact (hcell _ (PySem.mem_of_lookup e) rfl).elim
    | inr e => exact ⟨_, (taken I ok e).choose_spec.1⟩
  · exact (hfp b hb).1.2.2.2.1.elim (fun z => I.ok.noex b o e z) fun z => by
      exact Nat.not_le_of_lt (Heap.lt_size e) (Nat.le_trans I.ok.bsz z)
  · exact (List.mem_cons.mp (I.stkSub b z)).elim (hfp b hb).1.2.1 (hfp b hb).1.2.2.1
/-- the frame's context holds at the making -/
theorem gx_start (I : Inv X pins σ H s) (ok : BlkOk X.N X.env.scope scope own) (hN : X.N.Nodup) (hcell : ∀ y ∈ scope.names, y.2 ≠ .cell)
    (hfp : ∀ b ∈ fp, FpOk X pins H b ∧ b < s.heap.objs.size) (hA : A.handled = none) (hF : A.frames = some (gEnv X scope s.heap.objs.size code :: X.stack))
    (os : s5.os = s.os) (bare : AllBare s5.gens) (kp : ∀ b o, s.heap.get? b = some o → s5.heap.get? b = some o) (hC : s5.heap.Ns s.heap.objs.size m0) (ha : s.heap.objs.size < a) (hgo : s5.heap.get? a = some go) (hgc : ∀ v, go.data ≠ .cell v) :
    Inv (gx X s H A (gEnv X scope s.heap.objs.size code) fp [(a, go)]) [] (wipe σ (own.map (·.2))) H s5 := by
  have sees : ∀ {y c}, (cloFrom X.env.cells scope.names []).lookup y = some c → X.env.cells.lookup y = some c := fun e => (took I ok (PySem.mem_of_lookup e)).1
  refine ⟨gx_ok I ok hcell hfp hA hF, os, bare, Un.kept kp, ⟨m0, hC, fun i y av e1 e2 e3 => ?_⟩, fun y c e => ?_, I.hok.fresh (Nat.le_refl _), fun y c e => I.freeC y c (sees e), fun p hp => ?_, I.hok.kept kp, (wipe_length ..).trans I.len⟩
  · have e2 := wipe_some e2
    have fr := kept_free ok hN e1 e2.2 e3
    have fm := ok.free _ (PySem.mem_of_lookup fr) rfl
    obtain ⟨m, hn, hl⟩ := I.loc
    obtain ⟨w, r, q⟩ := hl i y av e1 e2.1 (.inr fm)
    obtain ⟨c, h1, h2⟩ := taken I ok fr
    refine ⟨w, r, .inr ⟨.inr fr, ?_⟩⟩
    cases q with
    | inl q =>
      have q1 : X.env.scope.names.lookup y = some .local := q.1
      cases fm with
      | inl z => exact nomatch (show some NameKind.local = some _ from q1.symm.trans z)
      | inr z => exact nomatch (show some NameKind.local = some _ from q1.symm.trans z)
    | inr q =>
      obtain ⟨_, c', e', z⟩ := q
      have := Option.some.inj (h2.symm.trans e')
      subst this
      exact ⟨c, h1, z.keeps kp⟩
  · have z := I.cell y c (sees e)
    exact ⟨_, z.choose_spec.keeps kp⟩
  · obtain rfl := List.mem_singleton.mp hp
    refine ⟨hgo, I.hok.fresh (Nat.le_of_lt ha), Nat.ne_of_gt ha, fun hb => (List.mem_cons.mp (I.stkSub a hb)).elim (fun z => ?_) (I.nofs (Nat.le_of_lt ha)), hgc⟩
    have h2 : a < s.heap.objs.size := by rw [z]; exact I.lt
    exact Nat.lt_asymm ha h2
end

/-- a generator is made, not begun -/
def GRdy (X : Cx) (pins : List (Addr × Obj)) (σ : L2.St) (vs : List Nat) (elt tg iter : Expr) (ifs : List Expr) (scope : Scope) (pos : Pos) (J : It) (H : Hp) (a : Addr) (s5 : Shared) : Prop :=
  ∃ (s4 : Shared) (it : Addr) (fp : List Addr) (tn : Nat → Heap → Prop) (code : Value) (g : Nat) (go : Obj), Inv X pins σ H s4 ∧ Turn X.prog X.w X.K tg J fp it tn ∧ (∀ b ∈ fp, FpOk X pins H b ∧ b < s4.heap.objs.size) ∧ tn 0 s5.heap ∧
    s5.os = s4.os ∧ AllBare s5.gens ∧ (∀ b o, s4.heap.get? b = some o → s5.heap.get? b = some o) ∧ s4.heap.objs.size < a ∧ a < s5.heap.objs.size ∧ s5.heap.get? a = some go ∧ (∀ h : Heap, h.get? a = some go → h.IsGen a g) ∧ (∀ v, go.data ≠ .cell v) ∧
    s5.gens[g]? = some (.fresh (gStart elt tg iter ifs scope pos it (gEnv X scope s4.heap.objs.size code))) ∧
    ∀ A : Around, A.handled = none → A.frames = some (gEnv X scope s4.heap.objs.size code :: X.stack) → Inv (gx X s4 H A (gEnv X scope s4.heap.objs.size code) fp [(a, go)]) [] (wipe σ vs) H s5

/-- what the making leaves, the code and the builtins known -/
def Laid (X : Cx) (elt tg iter : Expr) (ifs : List Expr) (scope : Scope) (pos : Pos) (it : Addr) (Q' : Value → Shared → Prop) (code : Value) (bi : Addr) (s₄ : Shared) : Prop :=
  ∀ h', h'.Ns s₄.heap.objs.size (fun y => if y = ".0" then some (.ref it) else none) → Heap.SameBut s₄.heap.objs.size (s₄.heap.push { cls := .type "frame", data := .dict #[] }) h' →
    Q' (.ref h'.objs.size) { s₄ with
      gens := s₄.gens.push (.fresh (.compStart (.GeneratorExp elt [⟨tg, iter, ifs, 0⟩] scope pos) 0 (.ref it) .none (genEnv scope (cloFrom X.env.cells scope.names []) s₄.heap.objs.size code bi X.env))),
      toks := s₄.toks + 1 + 1 + 1,
      heap := h'.push { cls := .type "generator", data := .fields #[.int s₄.gens.size 0, .str "<genexpr>" (s₄.toks + 1), .str (X.env.qual ++ "<genexpr>") (s₄.toks + 1 + 1)] } }
section
variable {c P it : Addr} {elt tg iter : Expr} {ifs : List Expr} {pos : Pos} {fp : List Addr} {tn : Nat → Heap → Prop} {J : It} {Q' : Value → Shared → Prop}
/-- the generator's object laid: it is ready -/
theorem rdy_of {s4 : Shared} {h' : Heap} {code nm qn : Value} {tk : Nat} {go : Obj} (I : Inv X pins σ H s4) (ok : BlkOk X.N X.env.scope scope own) (hN : X.N.Nodup) (hcell : ∀ y ∈ scope.names, y.2 ≠ .cell) (T : Turn X.prog X.w X.K tg J fp it tn) (hfp : ∀ b ∈ fp, FpOk X pins H b ∧ b < s4.heap.objs.size)
    (ns : h'.Ns s4.heap.objs.size (fun y => if y = ".0" then some (.ref it) else none)) (hs : Heap.SameBut s4.heap.objs.size (s4.heap.push { cls := .type "frame", data := .dict #[] }) h') (st : tn 0 s4.heap) (hgo : go = { cls := .type "generator", data := .fields #[.int s4.gens.size 0, nm, qn] }) :
    GRdy X pins σ (own.map (·.2)) elt tg iter ifs scope pos J H h'.objs.size { s4 with gens := s4.gens.push (.fresh (gStart elt tg iter ifs scope pos it (gEnv X scope s4.heap.objs.size code))), toks := tk, heap := h'.push go } := by
  have sz : h'.objs.size = s4.heap.objs.size + 1 := hs.1.trans (Heap.size_push ..)
  have kp : ∀ b o, s4.heap.get? b = some o → (h'.push go).get? b = some o := fun b o e => Heap.get?_push_of_some _ (hs.extBut b o (Nat.ne_of_lt (Heap.lt_size e)) (Heap.get?_push_of_some _ e))
  have ba : AllBare (s4.gens.push (.fresh (gStart elt tg iter ifs scope pos it (gEnv X scope s4.heap.objs.size code)))) := AllBare.push I.bare rfl
  have nc : ∀ v, go.data ≠ .cell v := by subst hgo; exact fun v q => nomatch q
  have at1 : (h'.push go).get? h'.objs.size = some go := by subst hgo; exact Heap.get?_push_size _ rfl
  refine ⟨s4, it, fp, tn, code, s4.gens.size, go, I, T, hfp, T.keep _ _ _ st fun b _ o e => kp b o e, rfl, ba, kp, by omega, ?_, at1, fun h e => ⟨go, nm, qn, e, by rw [hgo], by rw [hgo], by rw [hgo]⟩, nc, Array.getElem?_push_size .., fun A hA hF => ?_⟩
  · have : (h'.push go).objs.size = h'.objs.size + 1 := Heap.size_push ..
    show _ < (h'.push go).objs.size
    omega
  · exact gx_start (s5 := { s4 with gens := s4.gens.push (.fresh (gStart elt tg iter ifs scope pos it (gEnv X scope s4.heap.objs.size code))), toks := tk, heap := h'.push go }) I ok hN hcell hfp hA hF rfl ba kp (ns.push _) (by omega) at1 nc
/-- with a table that has grown by some codes -/
theorem laid_of {R : It → Hp → Prop} {s2 : Shared} {H2 : Hp} {ps ps' : Array Value} {code : Value} {h3 : Heap} {tk : Nat} (TB : TabB X.base X.mg c P) (ok : BlkOk X.N X.env.scope scope own) (hN : X.N.Nodup) (hcell : ∀ y ∈ scope.names, y.2 ≠ .cell)
    (I2 : Inv X pins σ H2 s2) (T : Turn X.prog X.w X.K tg J fp it tn) (st2 : tn 0 s2.heap) (f2 : ∀ b ∈ fp, FpOk X pins H2 b) (hP : H2 P = some (.tbl ps)) (q : R J H2)
    (hQ : ∀ J H1 H2 a s5, R J H1 → Tabbed P H1 H2 → GRdy X pins σ (own.map (·.2)) elt tg iter ifs scope pos J H2 a s5 → Q' (.ref a) s5)
    (hx : Heap.ExtBut P s2.heap h3) (hP3 : h3.get? P = some { cls := .none, data := .fields ps' }) (hmore : ∃ more, ps' = ps ++ more) (ht3 : TriplesOk ps'.toList) :
    wpAny (model X.prog X.w) X.A (builtinsFor X.env.globals X.env.builtins) (Laid X elt tg iter ifs scope pos it Q' code) X.xe { s2 with heap := h3, toks := tk } := by
  obtain ⟨more, rfl⟩ := hmore
  have I3 : Inv X pins σ (upd H2 P (.tbl (ps ++ more))) { s2 with heap := h3, toks := tk } :=
    inv_tab (more := more) (h' := h3) (g' := s2.gens) (d' := s2.drawn) (t' := tk) I2 hP (fun b u hb e => hx b u hb e) hP3 I2.bare
  have notP : ∀ b ∈ fp, b ≠ P := fun b hb z => by
    have := (f2 b hb).1
    rw [z, hP] at this
    cases this
  obtain ⟨bm, ob, t1, t2, t3, t4, t5, t6, t7, t8⟩ := TB.bm
  refine wpAny_builtinsFor (m := X.mg) (by rw [I3.ok.glob]; exact I3.mod.glob.keeps I3.bk) t1 t2 (I3.bk _ _ t5) t6 t7 t8 ?_
  intro h' ns hs
  refine hQ J H2 (upd H2 P (.tbl (ps ++ more))) _ _ q ⟨⟨ps ++ more, upd_same, ht3⟩, fun b hb => upd_ne hb⟩ ?_
  refine rdy_of I3 ok hN hcell T (fun b hb => ⟨⟨(upd_ne (notP b hb)).trans (f2 b hb).1, (f2 b hb).2⟩, ?_⟩) ns hs (T.keep _ _ _ st2 fun b hb o e => hx b o (notP b hb) e) rfl
  have ho := (T.obj _ _ st2 b hb).choose_spec.1
  exact Heap.lt_size (hx b _ (notP b hb) ho)
theorem gen_rdy {wi : TI} {k : Nat} {R : It → Hp → Prop}
    (hr : Room k X.A) (TB : TabB X.base X.mg c P) (hcode : X.env.code = .ref c) (ok : BlkOk X.N X.env.scope scope own) (hN : X.N.Nodup) (hco : scope.isCoroutine = false) (hcell : ∀ y ∈ scope.names, y.2 ≠ .cell) (hdot : scope.names.lookup (".0" : Str) = some NameKind.local)
    (hi : PI X tg iter wi) (hs : ∀ v, genFold iter X.env v = pure v) (I : Inv X pins σ H s) (h : wi σ H fun J H1 => TabG H1 P ∧ R J H1)
    (hQ : ∀ J H1 H2 a s5, R J H1 → Tabbed P H1 H2 → GRdy X pins σ (own.map (·.2)) elt tg iter ifs scope pos J H2 a s5 → Q' (.ref a) s5) :
    wpAny (model X.prog X.w) X.A (eval (.GeneratorExp elt [⟨tg, iter, ifs, 0⟩] scope pos) X.env) Q' X.xe s := by
  have room : X.A.depth < recursionLimit := by
    have := hr.dp
    omega
  refine wpAny_GeneratorExp_make hco (closure_ok (free_cell I ok)) hcell hdot ok.kind room (thn (hi.run pins s σ H _ I h) fun xv s1 h1 => thn h1 fun itv s2 h2 => ?_) hs
  obtain ⟨it, fp, tn, J, H2, rfl, I2, T, st2, f2, hT, q⟩ := h2
  obtain ⟨ps, hP, ht⟩ := hT
  have hPs : s2.heap.get? P = some { cls := .none, data := .fields ps } := I2.hok P _ hP
  have cd : PySem.W.CodeHd s2.heap c P := TB.code.keeps fun b u e => I2.bk b u e
  refine ⟨I2.nolimit, ?_⟩
  cases hf : codeAmong pos ps.toList with
  | some cv =>
    exact wpAny_genexprCode_hit hcode (cd.code hPs ht) hf (laid_of (s2 := s2) (h3 := s2.heap) (tk := s2.toks) (ps' := ps) TB ok hN hcell I2 T st2 f2 hP q hQ (Heap.ExtBut.refl _ _) hPs ⟨#[], by simp⟩ ht)
  | none =>
    refine wpAny_genexprCodeX hcode (cd.code hPs ht) (cd.tab hPs) hf fun c' h' tk hx hge hlt hco' _ htab' _ => ?_
    obtain ⟨_, _, _, _, _, _, _, _, _, _, _, _, _, _, _, _, _, _, _, tri, _⟩ := hco'
    exact laid_of TB ok hN hcell I2 T st2 f2 hP q hQ hx htab'.2 ⟨_, rfl⟩ tri
end
end
end G

namespace G
open PySem L2 GenW GxR
open PySem.Spec PyProof.Rows
/-- nothing is changed while the generator sleeps -/
structure Nap (s s' : Shared) : Prop where
  os : s'.os = s.os
  bare : AllBare s'.gens
  keep : ∀ b o, s.heap.get? b = some o → s'.heap.get? b = some o
def ConP (X : Cx) (fp : List Addr) : Con X fp where
  CP := fun _ pins => pins = []
  Wk := fun _ s s' => Nap s s'
  nfp := fun _ pins h p hp => by subst h; exact absurd hp (by simp)
  ok := fun acc y v pins σ H s s' hcp _ I n => ⟨pins, hcp, I.call' (ch := []) n.os (Un.kept n.keep) (I.hok.kept n.keep) n.bare (fun b z => absurd z (by simp)), fun b _ o e => n.keep b o e⟩
/-- a value's truth -/
def tru : V → Option Bool
  | .bl b => some b
  | .int i => some (i != 0)
  | .non => some false
  | _ => none
theorem tru_ok {P : Program} {w : World} {A : Around} {y : V} {v : Value} {b : Bool} {s : Shared} {Q : Bool → Shared → Prop} {E : Value → Shared → Prop} (r : RelV y v) (h : tru y = some b) (q : Q b s) : wpAny (model P w) A (truthy v) Q E s := by
  cases y with
  | bl c => cases r; cases h; exact wpAny_truthy_bool q
  | non =>
    cases r; cases h
    exact wpAny_of_eq rfl q
  | int i =>
    obtain ⟨t, rfl⟩ := r
    have h : some (i != 0) = some b := h
    cases h
    exact truthy_int q
  | _ => cases h
section
variable {X : Cx} {fp : List Addr} {a : Addr} {g : Nat} {go : Obj}
/-- asleep or not begun: what a next turn does -/
def Aslp (X : Cx) (fp : List Addr) (Cn : Con X fp) (fin : List V → Hp → Prop) (stp : V → Option Bool) (cut : Hp → Prop) (a : Addr) (g : Nat) (A : Around) (n : Nat) (s : Shared) : Prop :=
  s.heap.IsGen a g ∧ s.heap.NoLimit ∧ ∃ gs, s.gens[g]? = some gs ∧ gs.Goes (model X.prog X.w) A (RG Cn fin) (YG Cn stp cut) n (.send .none) (s.setGen g .running)
/-- what comes of one next: the end (none), or an item, behind which it sleeps again or is left -/
def Nxt (X : Cx) (fp : List Addr) (fin : List V → Hp → Prop) (stp : V → Option Bool) (cut : Hp → Prop) (a : Addr) (g : Nat) (A : Around) (n : Nat) : Option Value → Shared → Prop
  | none, s' => ∃ acc pins σ H s, Inv X pins σ H s ∧ fin acc H ∧ Nap s s'
  | some v, s' => ∃ y pins σ H s, RelV y v ∧ Inv X pins σ H s ∧ Nap s s' ∧ ((stp y = some false ∧ ∃ m, m < n ∧ Aslp X fp (ConP X fp) fin stp cut a g A m s') ∨ (stp y = some true ∧ cut H))
theorem nextG {A : Around} {fin : List V → Hp → Prop} {stp : V → Option Bool} {cut : Hp → Prop} {E : Value → Shared → Prop} (hpn : (a, go) ∈ X.pn) (hig : ∀ h : Heap, h.get? a = some go → h.IsGen a g) (hh : A.handled = none) (hd : A.depth < recursionLimit) {n : Nat} {s : Shared}
    (h : Aslp X fp (ConP X fp) fin stp cut a g A.in1 n s) : wpAny (model X.prog X.w) A (pyNext (.ref a)) (Nxt X fp fin stp cut a g A.in1 n) E s := by
  obtain ⟨hg, hl, gs, hgs, hgo⟩ := h
  have room : g + 1 ≤ s.gens.size := (Array.getElem?_eq_some_iff.mp hgs).1
  refine wpAny_gsz room (wpAny_pyNext_genexpQ (P := PG1 (ConP X fp) fin) hh hl hd hg hgs hgo ?_ ?_)
  · rintro v sa gs' hbare ⟨acc, pins, y, σ, H, -, rv, -, I, alt⟩ sized
    refine ⟨y, pins, σ, H, sa, rv, I, ⟨rfl, allBare_setGen I.bare hbare, fun _ _ e => e⟩, alt.imp (fun ⟨hs, hk⟩ => ⟨hs, ?_⟩) id⟩
    cases n with
    | zero => exact (hk sa ⟨rfl, I.bare, fun _ _ e => e⟩).elim
    | succ m =>
      refine ⟨m, Nat.lt_succ_self m, hig _ (I.pin (a, go) (List.mem_append.mpr (.inl hpn))).1, I.nolimit, gs', setGen_at ?_, hk _ ⟨rfl, allBare_setGen (s := sa.setGen g gs') (allBare_setGen I.bare hbare) rfl, fun _ _ e => e⟩⟩
      have same := setGen_size sa g gs'
      rw [same] at sized
      exact sized
  · rintro sa ⟨acc, pins, σ, H, -, -, I, hf⟩ h' hk -
    exact ⟨acc, pins, σ, H, sa, I, hf, rfl, allBare_setGen I.bare rfl, hk⟩
/-- a loop that goes on while its items' truth is w: all's (w = true), any's (w = false) -/
structure Lp (nm : String) (w : Bool) : Prop where
  quiet : ∀ args : Args, (Code.builtin nm args).quiet = true
  run : ∀ {P : Program} {W : World} {A : Around} {a : Addr} {s : Shared} {R : Result → Shared → Prop}, wpAny (model P W) A.in1 (pyNext (.ref a)) (fun o s' => match o with
    | none => R (.ok (.ret (.bool w))) s'
    | some v => ∃ b, (∀ {B : Around} {Q : Bool → Shared → Prop} {E : Value → Shared → Prop}, Q b s' → wpAny (model P W) B (truthy v) Q E s') ∧ ((b = w ∧ codeAny (model P W) A (.builtin nm ⟨[.ref a], []⟩) R s') ∨ (b = !w ∧ R (.ok (.ret (.bool (!w)))) s'))) (fun _ _ => False) s →
    codeAny (model P W) A (.builtin nm ⟨[.ref a], []⟩) R s
theorem lp_all : Lp "all.loop" true where
  quiet := plainId_quiet F.plain_all_loop
  run {P W A a s R} h := codeAny_builtin F.entry_all_loop (by
    rw [Around.under_plainId F.plain_all_loop, Builtin.«all.loop»]
    refine wpAny_bind (wpAny_mono h ?_ fun _ _ z => z.elim)
    rintro (_ | v) s' q
    · exact wpAny_bind (wpAny_rule (wpAny_pure q))
    · obtain ⟨b, ht, q⟩ := q
      refine wpAny_bind (wpAny_holding (ht (wpAny_bind (wpAny_letGo ?_))))
      rcases q with ⟨rfl, q⟩ | ⟨rfl, q⟩
      · exact wpAny_pure ⟨plainId_quiet F.plain_all_loop _, q⟩
      · exact wpAny_bind (wpAny_rule (wpAny_pure q)))
theorem lp_any : Lp "any.loop" false where
  quiet := plainId_quiet F.plain_any_loop
  run {P W A a s R} h := codeAny_builtin F.entry_any_loop (by
    rw [Around.under_plainId F.plain_any_loop, Builtin.«any.loop»]
    refine wpAny_bind (wpAny_mono h ?_ fun _ _ z => z.elim)
    rintro (_ | v) s' q
    · exact wpAny_bind (wpAny_rule (wpAny_pure q))
    · obtain ⟨b, ht, q⟩ := q
      refine wpAny_bind (wpAny_holding (ht (wpAny_bind (wpAny_letGo ?_))))
      rcases q with ⟨rfl, q⟩ | ⟨rfl, q⟩
      · exact wpAny_pure ⟨plainId_quiet F.plain_any_loop _, q⟩
      · exact wpAny_bind (wpAny_rule (wpAny_pure q)))
theorem loopG {nm : String} {w : Bool} (L : Lp nm w) {A : Around} {R : Result → Shared → Prop} {fin : List V → Hp → Prop} {stp : V → Option Bool} {cut : Hp → Prop} (hst : ∀ y b, stp y = some b → tru y = some (b != w)) (hpn : (a, go) ∈ X.pn) (hig : ∀ h : Heap, h.get? a = some go → h.IsGen a g) (hh : A.handled = none) (hd : A.depth < recursionLimit)
    (hend : ∀ acc pins σ H s s', Inv X pins σ H s → fin acc H → Nap s s' → R (.ok (.ret (.bool w))) s')
    (hcut : ∀ pins σ H s s', Inv X pins σ H s → cut H → Nap s s' → R (.ok (.ret (.bool (!w)))) s') (n : Nat) :
    ∀ (s : Shared), Aslp X fp (ConP X fp) fin stp cut a g A.in1.in1 n s → codeAny (model X.prog X.w) A (.builtin nm ⟨[.ref a], []⟩) R s :=
  Nat.strongRecOn n fun n ih s h => L.run (R := R) (wpAny_mono (nextG (A := A.in1) (E := fun _ _ => False) hpn hig hh hd h) (by
    rintro (_ | v) s' q
    · obtain ⟨acc, pins, σ, H, s1, I, hf, nap⟩ := q
      exact hend acc pins σ H s1 s' I hf nap
    · obtain ⟨y, pins, σ, H, s1, rv, I, nap, alt⟩ := q
      rcases alt with ⟨hs, m, hm, hz⟩ | ⟨hs, hc⟩
      · exact ⟨_, fun q => tru_ok rv (hst y false hs) q, .inl ⟨by simp, ih m hm s' hz⟩⟩
      · exact ⟨_, fun q => tru_ok rv (hst y true hs) q, .inr ⟨by simp, hcut pins σ H s1 s' I hc nap⟩⟩) fun _ _ z => z)
end
end G

namespace G
open PySem L2 GenW GxR
open PySem.Spec PyProof.Rows
section
variable {X : Cx} {pins : List (Addr × Obj)} {σ : L2.St} {H : Hp} {s4 : Shared}
/-- back in the def's context -/
theorem back {fp : List Addr} {A : Around} {env : Env} {pn pins' : List (Addr × Obj)} {σ' : L2.St} {H' : Hp} {s1 s' : Shared} (I4 : Inv X pins σ H s4) (hfp : ∀ b ∈ fp, FpOk X pins H b ∧ b < s4.heap.objs.size)
    (I : Inv (gx X s4 H A env fp pn) pins' σ' H' s1) (n : Nap s1 s') : Inv X pins σ H' s' :=
  I4.call' (ch := fp) (n.os.trans I.os) (I.base.trans (Un.kept n.keep)) (I.hok.kept n.keep) n.bare fun b hb => ⟨(hfp b hb).1.2.2.2.1, (hfp b hb).1.2.1, (hfp b hb).1.2.2.2.2.1, (hfp b hb).1.2.2.2.2.2⟩
theorem wipe_mono {vs : List Nat} {σ' σ0 : L2.St} (h : wipe σ' vs = σ0) (i : Nat) (v : V) (e : σ0[i]? = some (some v)) : σ'[i]? = some (some v) := by
  rw [← h] at e
  exact (wipe_some e).1
end
/-- all(..), any(..): stp: which items end it -/
def tGq (P : Addr) (stp : V → Option Bool) (r r' : V) (wi : TI) (g : TG) (tt : TT) (te : TE) (vs : List Nat) : TE := fun σ H Q => wi σ H fun J H1 => TabG H1 P ∧ ∀ H2, Tabbed P H1 H2 →
  ∃ W : Nat → Nat → List V → Hp → Prop, (∃ m, W 0 m [] H2) ∧ GTurns J g tt te stp (wipe σ vs) vs W (fun _ H' => Q r H') fun H' => Q r' H'
/-- for a list: all items -/
def tGl (P : Addr) (wi : TI) (g : TG) (tt : TT) (te : TE) (vs : List Nat) : TGen := fun σ H cont => wi σ H fun J H1 => TabG H1 P ∧ ∀ H2, Tabbed P H1 H2 →
  ∃ W : Nat → Nat → List V → Hp → Prop, (∃ m, W 0 m [] H2) ∧ GTurns J g tt te (fun _ => some false) (wipe σ vs) vs W cont fun _ => False
section
variable {X : Cx} {c P : Addr} {elt tg iter : Expr} {ifs : List Expr} {scope : Scope} {own : List (Str × Nat)} {pos p cpos : Pos} {wi : TI} {g : TG} {tt : TT} {te : TE} {k : Nat}
/-- what is asked of a generator expression -/
structure GxOk (X : Cx) (c P : Addr) (elt tg iter : Expr) (ifs : List Expr) (scope : Scope) (own : List (Str × Nat)) (wi : TI) (g : TG) (tt : TT) (te : TE) (k : Nat) : Prop where
  TB : TabB X.base X.mg c P
  code : X.env.code = .ref c
  ok : BlkOk X.N X.env.scope scope own
  nd : X.N.Nodup
  (co : scope.isCoroutine = false) (cell : ∀ y ∈ scope.names, y.2 ≠ .cell) (dot : scope.names.lookup (".0" : Str) = some NameKind.local)
  calm : X.calm = true
  pi : PI X tg iter wi
  pg : ∀ (s : Shared) (H : Hp) (A : Around) (C : Addr) (code : Value) (fp : List Addr) (pn : List (Addr × Obj)), Room k A → PG (gx X s H A (gEnv X scope C code) fp pn) tg g
  pt : ∀ (s : Shared) (H : Hp) (A : Around) (C : Addr) (code : Value) (fp : List Addr) (pn : List (Addr × Obj)), Room k A → PTs (gx X s H A (gEnv X scope C code) fp pn) ifs tt
  pe : ∀ (s : Shared) (H : Hp) (A : Around) (C : Addr) (code : Value) (fp : List Addr) (pn : List (Addr × Obj)), Room k A → PE (gx X s H A (gEnv X scope C code) fp pn) elt te
  hs : ∀ v, genFold iter X.env v = pure v

/-- the frame keeps what the loop asks -/
theorem GxOk.loop (gk : GxOk X c P elt tg iter ifs scope own wi g tt te k) {pins : List (Addr × Obj)} {σ : L2.St} {H : Hp} {s4 : Shared} {it a : Addr} {fp : List Addr} {tn : Nat → Heap → Prop} {J : It} {code : Value} {go : Obj} {A : Around}
    (I4 : Inv X pins σ H s4) (T : Turn X.prog X.w X.K tg J fp it tn) (hfp : ∀ b ∈ fp, FpOk X pins H b ∧ b < s4.heap.objs.size) (ha : s4.heap.objs.size < a) (hr : Room k (A.deeper (gEnv X scope s4.heap.objs.size code))) :
    LpOk A (gx X s4 H (A.deeper (gEnv X scope s4.heap.objs.size code)) (gEnv X scope s4.heap.objs.size code) fp [(a, go)]) fp elt tg iter ifs it tn J g tt te (wipe σ (own.map (·.2))) (own.map (·.2)) where
  noX := fun _ _ z => z
  ov := rfl
  calm := gk.calm
  ex := rfl
  pn := fun q hq hb => by
    rw [List.mem_singleton.mp hq] at hb
    exact Nat.lt_asymm ha (hfp a hb).2
  co := gk.co
  tu := T
  pg := gk.pg _ _ _ _ _ _ _ hr
  pt := gk.pt _ _ _ _ _ _ _ hr
  pe := gk.pe _ _ _ _ _ _ _ hr
  wp := fun _ e => wipe_mono e
  len := (wipe_length ..).trans I4.len
/-- a first turn's Seg -/
theorem seg_first {pins : List (Addr × Obj)} {σ : L2.St} {H : Hp} {s4 s6 : Shared} {it a : Addr} {fp : List Addr} {tn : Nat → Heap → Prop} {J : It} {code : Value} {go : Obj} {A : Around} {stp : V → Option Bool} {W : Nat → Nat → List V → Hp → Prop} {fin : List V → Hp → Prop} {cut : Hp → Prop} {m : Nat}
    (gk : GxOk X c P elt tg iter ifs scope own wi g tt te k) (I4 : Inv X pins σ H s4) (T : Turn X.prog X.w X.K tg J fp it tn) (hfp : ∀ b ∈ fp, FpOk X pins H b ∧ b < s4.heap.objs.size) (ha : s4.heap.objs.size < a) (hr : Room (k + 1) A)
    (Cn : Con (gx X s4 H (A.deeper (gEnv X scope s4.heap.objs.size code)) (gEnv X scope s4.heap.objs.size code) fp [(a, go)]) fp) (st : tn 0 s6.heap) (w : W 0 m [] H)
    (h6 : ∃ pins', Cn.CP [] pins' ∧ Inv (gx X s4 H (A.deeper (gEnv X scope s4.heap.objs.size code)) (gEnv X scope s4.heap.objs.size code) fp [(a, go)]) pins' (wipe σ (own.map (·.2))) H s6)
    (tr : GTurns J g tt te stp (wipe σ (own.map (·.2))) (own.map (·.2)) W fin cut) :
    Seg (model X.prog X.w) A (RG Cn fin) (YG Cn stp cut) sizeLine s6 (gStart elt tg iter ifs scope pos it (gEnv X scope s4.heap.objs.size code)) ((model X.prog X.w).den (gStart elt tg iter ifs scope pos it (gEnv X scope s4.heap.objs.size code))) [] s6 := by
  obtain ⟨pins', hcp, I6⟩ := h6
  exact seg_gstart (K := X.K) T st (seg_gloop (gk.loop I4 T hfp ha (hr.deeper _)) tr m 0 sizeLine [] s6 s6 ⟨Nat.add_zero _, pins', H, hcp, I6, st, fun b hb => (hfp b hb).1.1, w⟩)

/-! ### all, any -/
/-- a builtin called by its name with one value -/
theorem pe_call1 {nm : Str} {id : String} {e : Expr} {t : TE} (hg : Gl X nm) (hm : X.mg nm = none) (hb : bootBuiltins nm = some (.builtin id)) (hn : nm ≠ "__name__") (hd : (nm == ("__debug__" : Str)) = false) (he : starEach [e] X.env = (false, eval e X.env) :: starEach [] X.env)
    (run : ∀ (pins : List (Addr × Obj)) (σ : L2.St) (H : Hp) (s : Shared) (Q : VK), Inv X pins σ H s → t σ H Q → wpAny (model X.prog X.w) X.A (eval e X.env) (fun v s1 => wpAny (model X.prog X.w) X.A (call (.builtin id) [v]) (EP X pins σ Q) X.xe s1) X.xe s) :
    PE X (.Call (.Name nm p) [e] [] cpos) t where
  run := fun pins s σ H Q I h => wpAny_Call_Name_kw (ld_blt I hg hm hb (hn := hn) (hd := hd) (PyProof.Rows.callWith_builtin1 (by
    rw [he]
    exact Calls.spliced_cons (wpAny_mono (run pins σ H s Q I h) (fun _ _ q => Calls.spliced_nil q) fun _ _ q => q)) he rfl))
section
variable {prog : Program} {W : World} {A : Around} {E : Value → Shared → Prop} {s : Shared} {a : Addr} {gn : Nat} {Q : Value → Shared → Prop}
theorem call_all (hg : s.heap.IsGen a gn) (h : codeAny (model prog W) A (.builtin "all.loop" ⟨[.ref a], []⟩) (wants Q E) s) : wpAny (model prog W) A (call (.builtin "all") [.ref a]) Q E s :=
  call_function_tree PySem.F.kind_all PySem.F.plain_all PySem.F.entry_all (PySem.F.args_all1 _) (wpAny_bind (m := oneArg "all" _) (wpAny_pure (wpAny_bind (wpAny_pyIter_gen hg (wpAny_pure ⟨lp_all.quiet _, h⟩)))))
theorem call_any (hg : s.heap.IsGen a gn) (h : codeAny (model prog W) A (.builtin "any.loop" ⟨[.ref a], []⟩) (wants Q E) s) : wpAny (model prog W) A (call (.builtin "any") [.ref a]) Q E s :=
  call_function_tree PySem.F.kind_any PySem.F.plain_any PySem.F.entry_any (PySem.F.args_any1 _) (wpAny_bind (m := oneArg "any" _) (wpAny_pure (wpAny_bind (wpAny_pyIter_gen hg (wpAny_pure ⟨lp_any.quiet _, h⟩)))))
end
theorem q_run {ln : String} {w : Bool} (L : Lp ln w) {stp : V → Option Bool} (hst : ∀ y b, stp y = some b → tru y = some (b != w)) (gk : GxOk X c P elt tg iter ifs scope own wi g tt te k) (hr : Room (k + 3) X.A) {pins : List (Addr × Obj)} {σ : L2.St} {H2 : Hp} {s5 : Shared} {a : Addr} {J : It} {W : Nat → Nat → List V → Hp → Prop} {m0 : Nat} {Q : VK}
    (hG : GRdy X pins σ (own.map (·.2)) elt tg iter ifs scope pos J H2 a s5) (w0 : W 0 m0 [] H2) (tr : GTurns J g tt te stp (wipe σ (own.map (·.2))) (own.map (·.2)) W (fun _ H' => Q (.bl w) H') fun H' => Q (.bl (!w)) H') :
    ∃ gn, s5.heap.IsGen a gn ∧ codeAny (model X.prog X.w) X.A (.builtin ln ⟨[.ref a], []⟩) (wants (EP X pins σ Q) X.xe) s5 := by
  obtain ⟨s4, it, fp, tn, code, gn, go, I4, T, hfp, st5, -, -, -, ha, -, hgo, hig, -, hgs, mkI⟩ := hG
  have room : Room (k + 1) X.A.in1.in1 := Room.in1 (k := k + 1) (Room.in1 (k := k + 2) hr)
  have I5 := mkI (X.A.in1.in1.deeper (gEnv X scope s4.heap.objs.size code)) hr.hd (Around.frames_deeper I4.ok.frames)
  have I6 := I5.call' (ch := []) (s' := s5.setGen gn .running) rfl Un.refl I5.hok (allBare_setGen I5.bare rfl) fun b z => absurd z List.not_mem_nil
  have sg := seg_first (pos := pos) (s6 := s5.setGen gn .running) gk I4 T hfp ha room (ConP _ fp) st5 w0 ⟨[], rfl, I6⟩ tr
  refine ⟨gn, hig _ hgo, loopG L (X := gx X s4 H2 (X.A.in1.in1.deeper (gEnv X scope s4.heap.objs.size code)) (gEnv X scope s4.heap.objs.size code) fp [(a, go)]) (fp := fp) hst List.mem_cons_self hig hr.hd hr.depth ?_ ?_ sizeLine s5 ⟨hig _ hgo, I5.nolimit, _, hgs, rfl, sg⟩⟩
  · exact fun _ _ _ H' _ s' I q n => ⟨.bl w, H', back I4 hfp I n, rfl, q⟩
  · exact fun _ _ H' _ s' I q n => ⟨.bl (!w), H', back I4 hfp I n, rfl, q⟩
theorem pe_allG (gk : GxOk X c P elt tg iter ifs scope own wi g tt te k) (hr : Room (k + 3) X.A) (hg : Gl X "all") (hm : X.mg "all" = none) (hb : bootBuiltins "all" = some (.builtin "all"))
    (he : starEach [.GeneratorExp elt [⟨tg, iter, ifs, 0⟩] scope pos] X.env = (false, eval (.GeneratorExp elt [⟨tg, iter, ifs, 0⟩] scope pos) X.env) :: starEach [] X.env := by rfl) :
    PE X (.Call (.Name "all" p) [.GeneratorExp elt [⟨tg, iter, ifs, 0⟩] scope pos] [] cpos) (tGq P (fun y => (tru y).map (!·)) (.bl true) (.bl false) wi g tt te (own.map (·.2))) :=
  pe_call1 hg hm hb (by decide) (by decide) he fun pins σ H s Q I h => gen_rdy hr gk.TB gk.code gk.ok gk.nd gk.co gk.cell gk.dot gk.pi gk.hs I h fun J H1 H2 a s5 hR hT hG => by
    obtain ⟨W, ⟨m0, w0⟩, tr⟩ := hR H2 hT
    obtain ⟨gn, h1, h2⟩ := q_run (w := true) lp_all (stp := fun y => (tru y).map (!·)) (fun y b e => by
      cases ht : tru y with
      | none => rw [ht] at e; exact nomatch e
      | some t => rw [ht] at e; obtain rfl := Option.some.inj e; cases t <;> rfl) gk hr hG w0 tr
    exact call_all h1 h2
theorem pe_anyG (gk : GxOk X c P elt tg iter ifs scope own wi g tt te k) (hr : Room (k + 3) X.A) (hg : Gl X "any") (hm : X.mg "any" = none)
    (he : starEach [.GeneratorExp elt [⟨tg, iter, ifs, 0⟩] scope pos] X.env = (false, eval (.GeneratorExp elt [⟨tg, iter, ifs, 0⟩] scope pos) X.env) :: starEach [] X.env := by rfl) :
    PE X (.Call (.Name "any" p) [.GeneratorExp elt [⟨tg, iter, ifs, 0⟩] scope pos] [] cpos) (tGq P tru (.bl false) (.bl true) wi g tt te (own.map (·.2))) :=
  pe_call1 hg hm boot_any (by decide) (by decide) he fun pins σ H s Q I h => gen_rdy hr gk.TB gk.code gk.ok gk.nd gk.co gk.cell gk.dot gk.pi gk.hs I h fun J H1 H2 a s5 hR hT hG => by
    obtain ⟨W, ⟨m0, w0⟩, tr⟩ := hR H2 hT
    obtain ⟨gn, h1, h2⟩ := q_run (w := false) lp_any (stp := tru) (fun y b e => by cases b <;> exact e) gk hr hG w0 tr
    exact call_any h1 h2

/-! ### into a list -/
def ConL (X : Cx) (fp : List Addr) (S : Addr) (hS : S ∉ fp) (hpn : ∀ p ∈ X.pn, p.1 ≠ S) (hA : Apart X S) : Con X fp where
  CP := fun acc pins => ∃ (accv : Array Value) (c : Nat), pins = [(S, lstObj accv c)] ∧ Vals acc accv.toList
  Wk := fun v s s' => Slept S v s s'
  nfp := fun _ pins h p hp => by
    obtain ⟨accv, c, rfl, _⟩ := h
    have hp' : p = (S, lstObj accv c) := by simpa using hp
    subst hp'
    exact hS
  ok := fun acc y v pins σ H s s' hcp rv I z => by
    obtain ⟨accv, c, rfl, r⟩ := hcp
    have hG : GI X S [] acc σ H s := ⟨accv, c, r, I⟩
    obtain ⟨accv', c', r', I'⟩ := hG.woken hpn (fun p hp => absurd hp (by simp)) hA rv z
    exact ⟨_, ⟨accv', c', rfl, r'⟩, I', fun b hb o e => z.keep b o (fun q => hS (q ▸ hb)) e⟩
theorem pgen_gx {E : XK} (gk : GxOk X c P elt tg iter ifs scope own wi g tt te k) (hr : Room (k + 1) X.A) : PGen X (k + 1) (.GeneratorExp elt [⟨tg, iter, ifs, 0⟩] scope pos) (tGl P wi g tt te (own.map (·.2))) E := by
  constructor
  intro pins s σ H cont I h
  refine gen_rdy hr gk.TB gk.code gk.ok gk.nd gk.co gk.cell gk.dot gk.pi gk.hs I h fun J H1 H2 a s5 hR hT hG => ?_
  obtain ⟨W, ⟨m0, w0⟩, tr⟩ := hR H2 hT
  obtain ⟨s4, it, fp, tn, code, gn, go, I4, T, hfp, st5, os5, ba5, kp5, ha1, ha2, hgo, hig, hgc, hgs, mkI⟩ := hG
  refine ⟨H2, s4, fp, I4, fun b hb => ⟨(hfp b hb).1.2.2.2.1, (hfp b hb).1.2.1, (hfp b hb).1.2.2.2.2.1, (hfp b hb).1.2.2.2.2.2⟩, a, gn, _, rfl, Nat.le_of_lt ha1, ha2, hig _ hgo, hgs, os5, ba5, I4.nolimit.keeps kp5, kp5, ?_⟩
  intro Aw S s2 hrw hfr hS kp2 hSo hos hba
  obtain ⟨cS, heS⟩ := hSo
  have I5 := mkI (Aw.deeper (gEnv X scope s4.heap.objs.size code)) hrw.hd (Around.frames_deeper hfr)
  have I2 : Inv (gx X s4 H2 (Aw.deeper (gEnv X scope s4.heap.objs.size code)) (gEnv X scope s4.heap.objs.size code) fp [(a, go)]) [] (wipe σ (own.map (·.2))) H2 s2 :=
    I5.call' (ch := []) (hos.trans os5.symm) (Un.kept kp2) (I5.hok.kept kp2) hba fun b z => absurd z (by simp)
  have hSa : a < S := Nat.lt_of_lt_of_le ha2 hS
  have hSfp : S ∉ fp := fun hb => absurd (Nat.lt_trans (Nat.lt_trans ha1 hSa) (hfp S hb).2) (Nat.lt_irrefl _)
  have hSpn : ∀ p ∈ [(a, go)], p.1 ≠ S := fun p hp => by
    rw [List.mem_singleton.mp hp]
    exact Nat.ne_of_lt hSa
  have hAp : Apart (gx X s4 H2 (Aw.deeper (gEnv X scope s4.heap.objs.size code)) (gEnv X scope s4.heap.objs.size code) fp [(a, go)]) S := by
    refine ⟨Nat.le_of_lt (Nat.lt_trans ha1 hSa), Nat.ne_of_gt (Nat.lt_trans ha1 hSa), fun x c' e z => ?_⟩
    obtain ⟨v, o, ho, _⟩ := I5.cell x c' e
    have := Heap.lt_size ho
    rw [z] at this
    exact absurd (Nat.lt_of_lt_of_le this hS) (Nat.lt_irrefl _)
  have I3 : Inv (gx X s4 H2 (Aw.deeper (gEnv X scope s4.heap.objs.size code)) (gEnv X scope s4.heap.objs.size code) fp [(a, go)]) [(S, lstObj #[] cS)] (wipe σ (own.map (·.2))) H2 s2 := I2.pins_of fun p hp => by
    rw [List.mem_singleton.mp hp]
    refine ⟨heS, I4.hok.fresh (Nat.le_of_lt (Nat.lt_trans ha1 hSa)), hAp.2.1, fun hb => ?_, fun v q => by cases q⟩
    exact I5.nofs hS hb
  refine seg_imp (R := RG (ConL _ fp S hSfp hSpn hAp) cont) (Y := YG (ConL _ fp S hSfp hSpn hAp) (fun _ => some false) fun _ => False) (fun n s₀ r s1 hR => ?_) (fun n s₀ v s1 kap kap' hkk hY => ?_) sizeLine
    (seg_first (pos := pos) (A := Aw) gk I4 T hfp ha1 hrw _ (T.keep _ _ _ st5 fun b hb o e => kp2 b o e) w0 ⟨_, ⟨#[], cS, rfl, .nil⟩, I3⟩ tr)
  · obtain ⟨hr', acc, pins', σ', H', hn, ⟨accv, cc, rfl, rv⟩, I1, q⟩ := hR
    obtain ⟨e1, e2, _⟩ := I1.pin (S, lstObj accv cc) (List.mem_append_right _ List.mem_cons_self)
    exact .inl ⟨.inr hr', H', acc, accv, cc, I1.os, I1.bare, I1.base, I1.hok, e2, e1, rv, by omega, q⟩
  · obtain ⟨acc, pins', y, σ', H', hn, ry, ⟨accv, cc, rfl, rv⟩, I1, alt⟩ := hY
    obtain ⟨e1, e2, _⟩ := I1.pin (S, lstObj accv cc) (List.mem_append_right _ List.mem_cons_self)
    rcases alt with ⟨_, hk⟩ | ⟨hs, _⟩
    · have hsz : accv.size = acc.length := by
        have e1 := rv.length
        have e2 : accv.toList.length = accv.size := by simp
        omega
      exact ⟨I1.os, I1.bare, I1.nolimit, hig _ (I1.pin (a, go) (List.mem_append_left _ List.mem_cons_self)).1, ⟨accv, cc, e1, by rw [hsz]; exact hn⟩, fun s' z => hkk _ _ (hk s' z)⟩
    · cases hs
end
end G

namespace G
open PySem L2 GenW GxR
open PySem.Spec PyProof.Rows
section
variable {P : Program} {w : World} {A : Around} {E : Value → Shared → Prop} {s : Shared} {a S : Addr} {g : Nat}
/-! ### a new list, and a generator's items into it -/
theorem touch_empty {c : Nat} {Q : Unit → Shared → Prop} (hS : s.heap.get? S = some (lstObj #[] c)) (h : ∀ h' : Heap, (∀ b o, b ≠ S → s.heap.get? b = some o → h'.get? b = some o) → (∃ c, h'.get? S = some (lstObj #[] c)) → Q () { s with heap := h' }) :
    wpAny (model P w) A (Builtin.List.listTouch (.ref S)) Q E s := by
  have one := Heap.get?_update_self (Obj.mapSeq (·.push Value.none)) hS rfl
  refine wpAny_bind (m := updateSeq S (·.push .none)) (wpAny_updateSeq hS rfl (wpAny_updateSeq (hz := by seq_fits) one rfl (h _ ?_ ⟨_, Heap.get?_update_self (Obj.mapSeq (·.pop)) one rfl⟩)))
  exact fun b o hb e => (Heap.get?_update_other _ _ (Ne.symm hb)).trans ((Heap.get?_update_other _ _ (Ne.symm hb)).trans e)
theorem hint_gen {Q : Bool → Shared → Prop} (hg : s.heap.IsGen a g) (h : Q true s) : wpAny (model P w) A (Builtin.List.listLengthHint (.ref a)) Q E s := by
  have ty : s.TypeIs (.ref a) "generator" := Heap.IsGen.typeIs hg
  refine wpAny_bind (m := specialOf (.ref a) "__len__") (wpAny_specialOf ty PySem.F.gen_no_len ?_)
  exact wpAny_bind (m := specialOf (.ref a) "__length_hint__") (wpAny_specialOf ty PySem.F.gen_no_hint (wpAny_pure h))
theorem extend_gen {c : Nat} {R : Result → Shared → Prop} (hSa : S ≠ a) (hS : s.heap.get? S = some (lstObj #[] c)) (hg : s.heap.IsGen a g)
    (h : ∀ h' : Heap, (∀ b o, b ≠ S → s.heap.get? b = some o → h'.get? b = some o) → (∃ c, h'.get? S = some (lstObj #[] c)) → codeAny (model P w) A (.builtin "list.extend.loop" ⟨[.ref S, .ref a, .ref S], []⟩) R { s with heap := h' }) :
    wpAny (model P w) A.in1 (Builtin.List.listExtendWith (.ref S) (.ref a) (.ref S)) (fun fin s' => match fin with
      | .done f => R (.ok f) s'
      | .again c' => c'.quiet = true ∧ codeAny (model P w) A c' R s') E s := by
  have no : (Builtin.List.listSameRef (.ref S) (.ref a) || Value.type "generator" == Value.type "list" || Value.type "generator" == Value.type "tuple") = false := by
    rw [show Builtin.List.listSameRef (.ref S) (.ref a) = false by simp [Builtin.List.listSameRef, hSa]]
    decide
  rw [Builtin.List.listExtendWith]
  refine wpAny_bind (wpAny_typeOf (Heap.IsGen.typeIs hg) ?_)
  rw [no, if_neg (by decide)]
  refine wpAny_bind (wpAny_pyIter_gen hg (wpAny_bind (wpAny_holding (hint_gen hg ?_))))
  rw [Bool.true_or, if_pos rfl]
  exact wpAny_bind (wpAny_rule (wpAny_bind (touch_empty hS fun h' k hc => wpAny_pure ⟨plainId_quiet PySem.F.plain_extend_loop _, h h' k hc⟩)))
theorem code_collect {R : Result → Shared → Prop} (ha : a < s.heap.objs.size) (hg : s.heap.IsGen a g)
    (h : ∀ h' : Heap, (∀ b o, s.heap.get? b = some o → h'.get? b = some o) → (∃ c, h'.get? s.heap.objs.size = some (lstObj #[] c)) → codeAny (model P w) A (.builtin "list.extend.loop" ⟨[.ref s.heap.objs.size, .ref a, .ref s.heap.objs.size], []⟩) R { s with heap := h' }) :
    codeAny (model P w) A (.builtin "proto.collect" ⟨[.ref a], []⟩) R s := by
  have kp : ∀ b o, s.heap.get? b = some o → (s.heap.push (lstObj #[] 0)).get? b = some o := fun b o e => Heap.get?_push_of_some _ e
  have ext := extend_gen (P := P) (w := w) (A := A) (E := fun e s' => R (.error e) s') (R := R) (S := s.heap.objs.size) (g := g) (c := 0) (s := { s with heap := s.heap.push (lstObj #[] 0) }) (Nat.ne_of_gt ha) (Heap.get?_push_size _ rfl) (hg.keeps kp) fun h' k' hc' =>
    h h' (fun b o e => k' b o (Nat.ne_of_lt (Heap.lt_size e)) (kp b o e)) hc'
  refine codeAny_builtin PySem.F.entry_proto_collect ?_
  rw [Around.under_plainId PySem.F.plain_proto_collect, Builtin.«proto.collect»]
  refine wpAny_bind (m := newList []) (wpAny_newObj_type (wpAny_pure ⟨plainId_quiet PySem.F.plain_list_iadd _, codeAny_builtin PySem.F.entry_list_iadd ?_⟩))
  rw [Around.under_plainId PySem.F.plain_list_iadd]
  exact ext
end
section
variable {P : Program} {w : World} {outer : List Env} {H : Hp} {sc s : Shared} {ex : List Addr} {Q : List V → Hp → Prop} {EX : XK} {A : Around} {k : Nat} {a : Addr} {E : Value → Shared → Prop}
theorem wpAny_collect_new {Q' : List Value → Shared → Prop} (hr : Room (k + 3) A) (hfr : A.frames = some outer) (h : GMade P w k outer H sc ex Q EX (.ref a) s)
    (hQ : ∀ (s' : Shared) (acc : Array Value) (H' : Hp) (ys : List V), Vals ys acc.toList → ys.length ≤ sizeLine → s'.os = sc.os → AllBare s'.gens → Un (frs outer) ex H H' sc.heap s'.heap → HOk P w H' s'.heap → Q ys H' → Q' acc.toList s')
    (hexc : ∀ e s', CX P w outer H sc EX e s' → False) : wpAny (model P w) A (collect (.ref a)) Q' E s := by
  obtain ⟨a', g, c, ea, -, ha, hg, hgs, hos, hb, hl, -, wake⟩ := h
  obtain rfl : a = a' := Value.ref.inj ea
  have neA : s.heap.objs.size ≠ a := Nat.ne_of_gt ha
  have neC : s.heap.objs.size ≠ cStatics := Nat.ne_of_gt (let ⟨_, q, _⟩ := hl; q.lt)
  refine wpAny_bind (wpAny_runValue (code_collect ha hg fun h' kp' hc' => ?_))
  refine drain (P := P) (w := w) (outer := outer) (H := H) (sc := sc) (ex := ex) (Q := Q) (EX := EX) (A := A) (g := g) hr.hd hr.depth neA neC
    (fun s' acc c H' ys q1 q2 q3 q4 q5 q6 q7 q8 q9 => by
      show wpAny _ _ (load _ >>= _) _ _ _
      exact wpAny_bind (wpAny_load q1 (wpAny_pure (hQ s' acc H' ys q2 q3 q4 q5 q6 q7 q9)))) (fun e s' hc => (hexc e s' hc).elim)
    sizeLine _ (hg.keeps kp') (hl.keeps kp') ⟨_, hgs, rfl, wake _ _ _ ⟨hr.hd, ?_, ?_⟩ hfr (Nat.le_refl _) kp' hc' hos (allBare_setGen (s := { s with heap := h' }) hb rfl)⟩
  · have := hr.dp
    show A.depth + 3 * k + 5 < _
    omega
  · have := hr.un
    show A.units + 1 + 1 + 16 * k + 200 < _
    omega
theorem code_tuple_newG {Q₁ : Value → Shared → Prop} (hr : Room (k + 5) A) (hfr : A.frames = some outer) (h : GMade P w k outer H sc ex Q EX (.ref a) s)
    (hQ : ∀ (s' : Shared) (acc : Array Value) (H' : Hp) (ys : List V), Vals ys acc.toList → ys.length ≤ sizeLine → s'.os = sc.os → AllBare s'.gens → Un (frs outer) ex H H' sc.heap s'.heap → HOk P w H' s'.heap → Q ys H' → Q₁ (.ref s'.heap.objs.size) { s' with heap := s'.heap.push { cls := .type "tuple", data := .seq acc } })
    (hexc : ∀ e s', CX P w outer H sc EX e s' → False) :
    codeAny (model P w) A (.call (.builtin "tuple.__new__") ⟨[.type "tuple", .ref a], []⟩) (wants Q₁ E) s := by
  have isg : ∃ g, s.heap.IsGen a g := by
    obtain ⟨a', g, _, ea, _, _, hg, _⟩ := id h
    obtain rfl : a = a' := Value.ref.inj ea
    exact ⟨g, hg⟩
  have ty : s.TypeIs (.ref a) "generator" := Heap.IsGen.typeIs isg.choose_spec
  refine codeAny_of_tree (wpAny_bind (m := checkBuiltinCall "tuple.__new__" ⟨[.type "tuple", .ref a], []⟩) (wpAny_of_eq (PySem.F.newCall_tuple_1 _) (wpAny_pure ⟨plainId_quiet PySem.F.plain_tuple_new _, codeAny_builtin PySem.F.entry_tuple_new ?_⟩)))
  rw [Around.under_plainId PySem.F.plain_tuple_new]
  have f1 := sub_tuple_self
  have f2 := init_tuple_lookup
  have f3 := madeHere_tuple
  have room : Room (k + 3) A.in1 := Room.in1 (k := k + 3) (hr.mono (by omega))
  have f4 := fun (Q' : List Value → Shared → Prop) (E' : Value → Shared → Prop) hQ' => wpAny_collect_new (E := E') (Q' := Q') room hfr h hQ' hexc
  wp_walk using wpAny_typeOf ty, f4
  intro s' acc H' ys q1 q2 q3 q4 q5 q6 q7
  have same : acc.toList.toArray = acc := Array.toArray_toList
  have fits : acc.size ≤ sizeLine := by
    have : acc.toList.length = acc.size := Array.length_toList
    have := q1.length
    omega
  rw [same]
  exact wpAny_bind (m := Builtin.Tuple.tupleExact acc) (wpAny_newObj_type (wpAny_pure (hQ s' acc H' ys q1 q2 q3 q4 q5 q6 q7)) fits)
theorem call_tuple_newG {Q' : Value → Shared → Prop} (hr : Room (k + 6) A) (hfr : A.frames = some outer) (h : GMade P w k outer H sc ex Q EX (.ref a) s)
    (hQ : ∀ (s' : Shared) (acc : Array Value) (H' : Hp) (ys : List V), Vals ys acc.toList → ys.length ≤ sizeLine → s'.os = sc.os → AllBare s'.gens → Un (frs outer) ex H H' sc.heap s'.heap → HOk P w H' s'.heap → Q ys H' → Q' (.ref s'.heap.objs.size) { s' with heap := s'.heap.push { cls := .type "tuple", data := .seq acc } })
    (hexc : ∀ e s', CX P w outer H sc EX e s' → False) : wpAny (model P w) A (call (.type "tuple") [.ref a]) Q' E s := by
  refine callType_codes (Q₁ := fun obj s₁ => s₁.TypeIs obj "tuple" ∧ Q' obj s₁) PySem.F.called_tuple (PySem.F.typeCall_tuple_1 _) PySem.F.entry_object_init
    (code_tuple_newG (A := A.in1) (Room.in1 (k := k + 5) hr) hfr h (fun s' acc H' ys q1 q2 q3 q4 q5 q6 q7 => ⟨⟨_, Heap.get?_push_size _ rfl, rfl⟩, hQ s' acc H' ys q1 q2 q3 q4 q5 q6 q7⟩) hexc) fun obj s₁ h₁ => ?_
  exact ⟨h₁.1, PySem.F.args_object_init_2 obj _, object_init_meets PySem.F.called_tuple.init.lookup PySem.F.called_tuple.made (by decide) P w A.in1 _ s₁ ⟨h₁.1, rfl, h₁.2⟩⟩
end
section
variable {X : Cx} {k : Nat} {e : Expr} {tg : TGen} {p cpos : Pos}
def tTupG (tg : TGen) : TE := fun σ H Q => tg σ H fun out H2 => ∀ p, H2 p = none → Q (.ref p) (upd H2 p (.tup out))
/-- a type called by its name with one value -/
theorem pe_type1 {nm : Str} {T : String} {t : TE} (hg : Gl X nm) (hm : X.mg nm = none) (hb : bootBuiltins nm = some (.type T)) (hn : nm ≠ "__name__") (hd : (nm == ("__debug__" : Str)) = false) (he : starEach [e] X.env = (false, eval e X.env) :: starEach [] X.env)
    (run : ∀ (pins : List (Addr × Obj)) (σ : L2.St) (H : Hp) (s : Shared) (Q : VK), Inv X pins σ H s → t σ H Q → wpAny (model X.prog X.w) X.A (eval e X.env) (fun v s1 => wpAny (model X.prog X.w) X.A (call (.type T) [v]) (EP X pins σ Q) X.xe s1) X.xe s) :
    PE X (.Call (.Name nm p) [e] [] cpos) t where
  run := fun pins s σ H Q I h => wpAny_Call_Name_kw (ld_blt I hg hm hb (hn := hn) (hd := hd) (PyProof.Rows.callWith_type1 (by
    rw [he]
    exact Calls.spliced_cons (wpAny_mono (run pins σ H s Q I h) (fun _ _ q => Calls.spliced_nil q) fun _ _ q => q)) he rfl))
/-- tuple(g) -/
theorem pe_tupleG (h : PGen X k e tg (fun _ _ _ => False)) (hr : Room (k + 6) X.A) (hg : Gl X "tuple") (hm : X.mg "tuple" = none) (hv : bootBuiltins "tuple" = some (.type "tuple"))
    (he : starEach [e] X.env = (false, eval e X.env) :: starEach [] X.env := by rfl) : PE X (.Call (.Name "tuple" p) [e] [] cpos) (tTupG tg) :=
  pe_type1 hg hm hv (by decide) (by decide) he fun pins σ H s Q I hq => thn (h.run pins s σ H _ I hq) fun u s1 hu => by
    obtain ⟨H1, sc, ex, I1, hex, hG⟩ := hu
    obtain ⟨a, _, _, rfl, _⟩ := id hG
    refine call_tuple_newG hr I1.ok.frames hG (fun s' acc H' ys q1 q2 q3 q4 q5 q6 q7 => ?_) fun e s' hc => ?_
    · have I2 : Inv X pins σ H' s' := I1.call' (ch := ex) q3 q5 q6 q4 hex
      have new : H' s'.heap.objs.size = none := I2.hok.fresh (Nat.le_refl _)
      refine ⟨.ref s'.heap.objs.size, upd H' s'.heap.objs.size (.tup ys), I2.laid (t' := s'.toks) (fun b u e => Heap.get?_push_of_some _ e) (Nat.le_refl _) ?_, rfl, q7 _ new⟩
      exact ⟨q2, acc.toList, q1, ⟨_, Heap.get?_push_size _ rfl, rfl, 0, by simp⟩⟩
    · obtain ⟨_, _, _, _, _, _, _, _, _, _, _, _, z⟩ := hc
      exact z
end
end G

namespace Z
open PySem L2 G
open PySem.Spec PyProof.Rows
variable [Tabs]

/-! ### generator expressions -/
def dtru : D → Option Bool
  | .bl b => some b
  | .int i => some (i != 0)
  | .non => some false
  | _ => none
theorem dtru_ok {K : PySem.W.Frag} {Hc : Hp} {m : List Addr} {d : D} {v : V} {t : Bool} (r : Rep K Hc m d v) (h : dtru d = some t) : tru v = some t := by
  cases d with
  | bl b => cases r; exact h
  | int i => cases r; exact h
  | non => cases r; exact h
  | _ => cases h
/-- all (pol true), any (pol false) -/
noncomputable def qA (pol : Bool) (s : Src) (g : GM) (ft : EM Bool) (fe : EM D) (env : En) : List D → Nat → Sto → Rs Bool
  | [], k, S => if s.okAt S = true then .ok pol S else .stk
  | d :: ds, k, S => if s.okAt S = true then (match g d env with
      | some env1 => (ft env1 S).nox.bnd fun b S1 => if b = true then (fe env1 S1).nox.bnd fun y S2 => if k < bigN then (match dtru y with
          | some t => if t = pol then qA pol s g ft fe env ds (k + 1) S2 else .ok (!pol) S2
          | none => .stk) else .stk else qA pol s g ft fe env ds k S1
      | none => .stk) else .stk
noncomputable def zQG (pol : Bool) (vs : List Nat) (fi : EI) (g : GM) (ft : EM Bool) (fe : EM D) : EM D := fun env S => (fi env S).bnd fun s S1 => (qA pol s g ft fe (wipeE env vs) s.items 0 S1).bnd fun b S2 => .ok (.bl b) S2
noncomputable def zTG (vs : List Nat) (fi : EI) (g : GM) (ft : EM Bool) (fe : EM D) : EM D := fun env S => (fi env S).bnd fun s S1 => (lcA s g ft fe (wipeE env vs) s.items [] S1).bnd fun acc S2 => .ok (.tup acc) S2
section
variable {K : PySem.W.Frag} {mg : Mg} {t : TG} {sl : List Nat} {g : GM} {tt : TT} {ft : EM Bool} {te : TE} {fe : EM D}
theorem lcA_turns {α β : Type} {rel : Hp → List Addr → α → β → Prop} {w : WS} {Q : β → Hp → Prop} {s : Src} {J : It} {m1 : List Addr} {Hc1 H1 : Hp} {S1 : Sto} {fr : List (Addr × HO)} {env : En} {σ : L2.St} {vs : List Nat} {k : List D → Sto → Rs α} {fin : List V → Hp → Prop}
    (hg : SG K t sl g) (hsl : ∀ i ∈ sl, i ∈ vs) (ht : ST K mg W0 tt ft) (he : SE K mg W0 te fe) (r1 : ItO K m1 Hc1 J s) (z1 : Zh K fr m1 Hc1 S1 H1) (zz : Ze K Hc1 m1 env (L2.wipe σ vs))
    (p : Pst K mg fr rel m1 Hc1 w Q ((lcA s g ft fe env s.items [] S1).bnd k))
    (hfin : ∀ H' m2 Hc2 S2 acc accv, Ex m1 Hc1 m2 Hc2 → Zh K fr m2 Hc2 S2 H' → Reps K Hc2 m2 acc accv → Pst K mg fr rel m2 Hc2 w Q (k acc S2) → fin accv H') :
    ∃ W : Nat → Nat → List V → Hp → Prop, (∃ m, W 0 m [] H1) ∧ GTurns J t tt te (fun _ => some false) (L2.wipe σ vs) vs W fin fun _ => False := by
  refine ⟨fun i n accv H' => n = s.items.length - i ∧ ∃ m2 Hc2 S2 acc, Ex m1 Hc1 m2 Hc2 ∧ Zh K fr m2 Hc2 S2 H' ∧ Reps K Hc2 m2 acc accv ∧ Pst K mg fr rel m2 Hc2 w Q ((lcA s g ft fe env (s.items.drop i) acc S2).bnd k),
    ⟨s.items.length, by simp, m1, Hc1, S1, [], Ex.refl _ _, z1, rfl, by simpa using p⟩, ?_⟩
  rintro i n accv H' ⟨rfl, m2, Hc2, S2, acc, x2, z2, rr2, p2⟩
  by_cases hlt : i < s.items.length
  · right
    rw [List.drop_eq_getElem_cons hlt] at p2
    unfold lcA at p2
    by_cases hok : s.okAt S2 = true
    · rw [if_pos hok] at p2
      obtain ⟨hgo, hyl⟩ := (r1 _ m2 Hc2 S2 H' i x2 z2 hok).1 _ (List.getElem?_eq_getElem hlt)
      refine ⟨hgo, fun accv' H3 => ∃ m3 Hc3 S3 acc', Ex m1 Hc1 m3 Hc3 ∧ Zh K fr m3 Hc3 S3 H3 ∧ Reps K Hc3 m3 acc' accv' ∧ Pst K mg fr rel m3 Hc3 w Q ((lcA s g ft fe env (s.items.drop (i + 1)) acc' S3).bnd k), fun acc' H3 hN => ⟨s.items.length - (i + 1), by omega, rfl, hN⟩, fun x H3 hy => ?_⟩
      obtain ⟨m3, Hc3, x3, z3, r3⟩ := hyl x H3 hy
      cases hgd : g s.items[i] env with
      | none => rw [hgd] at p2; exact p2.elim
      | some env3 =>
        rw [hgd] at p2
        replace p2 := Pst.mono x3 p2
        refine hg _ m3 Hc3 S2 H3 x _ env env3 _ _ z3 r3 (Ze.mono (x2.trans x3) zz) hgd fun σ3 zz3 hw => ⟨(hw vs hsl).trans (wipe_wipe fun _ h => h), ?_⟩
        have p3 : Pst K mg fr rel m3 Hc3 w Q ((ft env3 S2).nox.bnd fun b S1 => (if b = true then (fe env3 S1).nox.bnd fun y S2 => if acc.length < bigN then lcA s g ft fe env (s.items.drop (i + 1)) (acc ++ [y]) S2 else .stk else lcA s g ft fe env (s.items.drop (i + 1)) acc S1).bnd k) := by
          rw [← bnd_assoc]; exact p2
        refine ht _ m3 Hc3 env3 S2 σ3 H3 _ z3 zz3 (p3.bnd0 fun b S4 b' m4 Hc4 H4 x4 z4 r4 p4 => ?_)
        cases r4
        have x24 := x2.trans (x3.trans x4)
        cases b with
        | false =>
          rw [if_neg Bool.false_ne_true] at p4 ⊢
          exact ⟨m4, Hc4, S4, acc, x24, z4, Reps.mono (x3.trans x4) _ _ rr2, p4⟩
        | true =>
          rw [if_pos rfl] at p4 ⊢
          have p5 : Pst K mg fr rel m4 Hc4 w Q ((fe env3 S4).nox.bnd fun y S2 => (if acc.length < bigN then lcA s g ft fe env (s.items.drop (i + 1)) (acc ++ [y]) S2 else .stk).bnd k) := by
            rw [← bnd_assoc]; exact p4
          refine he _ m4 Hc4 env3 S4 σ3 H4 _ z4 (Ze.mono x4 zz3) (p5.bnd0 fun y S5 yv m5 Hc5 H5 x5 z5 r5 p6 => ?_)
          have rr5 := Reps.mono (x3.trans (x4.trans x5)) _ _ rr2
          by_cases hl : acc.length < bigN
          · rw [if_pos hl] at p6
            exact ⟨by rw [rr5.length]; exact Nat.lt_of_lt_of_le hl (by decide), .inl ⟨rfl, m5, Hc5, S5, acc ++ [y], x24.trans x5, z5, rr5.append (Reps.one r5), p6⟩⟩
          · rw [if_neg hl] at p6; exact p6.elim
    · rw [if_neg hok] at p2; exact p2.elim
  · left
    rw [List.drop_of_length_le (Nat.le_of_not_lt hlt)] at p2
    unfold lcA at p2
    by_cases hok : s.okAt S2 = true
    · rw [if_pos hok] at p2
      exact ⟨(r1 _ m2 Hc2 S2 H' i x2 z2 hok).2 (Nat.le_of_not_lt hlt), hfin H' m2 Hc2 S2 acc accv x2 z2 rr2 p2⟩
    · rw [if_neg hok] at p2; exact p2.elim
theorem qA_turns {α β : Type} {rel : Hp → List Addr → α → β → Prop} {w : WS} {Q : β → Hp → Prop} {pol : Bool} {s : Src} {J : It} {m1 : List Addr} {Hc1 H1 : Hp} {S1 : Sto} {fr : List (Addr × HO)} {env : En} {σ : L2.St} {vs : List Nat} {k : Bool → Sto → Rs α} {stp : V → Option Bool} {fin cut : Hp → Prop}
    (hstp : ∀ y b, tru y = some b → stp y = some (b != pol))
    (hg : SG K t sl g) (hsl : ∀ i ∈ sl, i ∈ vs) (ht : ST K mg W0 tt ft) (he : SE K mg W0 te fe) (r1 : ItO K m1 Hc1 J s) (z1 : Zh K fr m1 Hc1 S1 H1) (zz : Ze K Hc1 m1 env (L2.wipe σ vs))
    (p : Pst K mg fr rel m1 Hc1 w Q ((qA pol s g ft fe env s.items 0 S1).bnd k))
    (hfin : ∀ H' m2 Hc2 S2, Ex m1 Hc1 m2 Hc2 → Zh K fr m2 Hc2 S2 H' → Pst K mg fr rel m2 Hc2 w Q (k pol S2) → fin H')
    (hcut : ∀ H' m2 Hc2 S2, Ex m1 Hc1 m2 Hc2 → Zh K fr m2 Hc2 S2 H' → Pst K mg fr rel m2 Hc2 w Q (k (!pol) S2) → cut H') :
    ∃ W : Nat → Nat → List V → Hp → Prop, (∃ m, W 0 m [] H1) ∧ GTurns J t tt te stp (L2.wipe σ vs) vs W (fun _ => fin) cut := by
  refine ⟨fun i n accv H' => n = s.items.length - i ∧ ∃ m2 Hc2 S2, Ex m1 Hc1 m2 Hc2 ∧ Zh K fr m2 Hc2 S2 H' ∧ Pst K mg fr rel m2 Hc2 w Q ((qA pol s g ft fe env (s.items.drop i) accv.length S2).bnd k),
    ⟨s.items.length, by simp, m1, Hc1, S1, Ex.refl _ _, z1, by simpa using p⟩, ?_⟩
  rintro i n accv H' ⟨rfl, m2, Hc2, S2, x2, z2, p2⟩
  by_cases hlt : i < s.items.length
  · right
    rw [List.drop_eq_getElem_cons hlt] at p2
    unfold qA at p2
    by_cases hok : s.okAt S2 = true
    · rw [if_pos hok] at p2
      obtain ⟨hgo, hyl⟩ := (r1 _ m2 Hc2 S2 H' i x2 z2 hok).1 _ (List.getElem?_eq_getElem hlt)
      refine ⟨hgo, fun accv' H3 => ∃ m3 Hc3 S3, Ex m1 Hc1 m3 Hc3 ∧ Zh K fr m3 Hc3 S3 H3 ∧ Pst K mg fr rel m3 Hc3 w Q ((qA pol s g ft fe env (s.items.drop (i + 1)) accv'.length S3).bnd k), fun acc' H3 hN => ⟨s.items.length - (i + 1), by omega, rfl, hN⟩, fun x H3 hy => ?_⟩
      obtain ⟨m3, Hc3, x3, z3, r3⟩ := hyl x H3 hy
      cases hgd : g s.items[i] env with
      | none => rw [hgd] at p2; exact p2.elim
      | some env3 =>
        rw [hgd] at p2
        replace p2 := Pst.mono x3 p2
        refine hg _ m3 Hc3 S2 H3 x _ env env3 _ _ z3 r3 (Ze.mono (x2.trans x3) zz) hgd fun σ3 zz3 hw => ⟨(hw vs hsl).trans (wipe_wipe fun _ h => h), ?_⟩
        replace p2 := (bnd_assoc _ _ _) ▸ p2
        refine ht _ m3 Hc3 env3 S2 σ3 H3 _ z3 zz3 (p2.bnd0 fun b S4 b' m4 Hc4 H4 x4 z4 r4 p4 => ?_)
        cases r4
        have x24 := x2.trans (x3.trans x4)
        cases b with
        | false =>
          rw [if_neg Bool.false_ne_true] at p4 ⊢
          exact ⟨m4, Hc4, S4, x24, z4, p4⟩
        | true =>
          rw [if_pos rfl] at p4 ⊢
          rw [bnd_assoc] at p4
          refine he _ m4 Hc4 env3 S4 σ3 H4 _ z4 (Ze.mono x4 zz3) (p4.bnd0 fun y S5 yv m5 Hc5 H5 x5 z5 r5 p6 => ?_)
          by_cases hl : accv.length < bigN
          · rw [if_pos hl] at p6
            refine ⟨Nat.lt_of_lt_of_le hl (by decide), ?_⟩
            cases hd : dtru y with
            | none => rw [hd] at p6; exact p6.elim
            | some b =>
              rw [hd] at p6
              have hs := hstp yv b (dtru_ok r5 hd)
              by_cases hb : b = pol
              · simp only [hb, if_true] at p6
                exact .inl ⟨by rw [hs, hb]; simp, m5, Hc5, S5, x24.trans x5, z5, by rw [List.length_append, List.length_singleton]; exact p6⟩
              · simp only [hb, if_false] at p6
                exact .inr ⟨by rw [hs]; simpa using hb, hcut H5 m5 Hc5 S5 (x24.trans x5) z5 p6⟩
          · rw [if_neg hl] at p6; exact p6.elim
    · rw [if_neg hok] at p2; exact p2.elim
  · left
    rw [List.drop_of_length_le (Nat.le_of_not_lt hlt)] at p2
    unfold qA at p2
    by_cases hok : s.okAt S2 = true
    · rw [if_pos hok] at p2
      exact ⟨(r1 _ m2 Hc2 S2 H' i x2 z2 hok).2 (Nat.le_of_not_lt hlt), hfin H' m2 Hc2 S2 x2 z2 p2⟩
    · rw [if_neg hok] at p2; exact p2.elim
end
section
variable {X : Cx} {W : WX} {c P : Addr} {elt tg iter : Expr} {ifs : List Expr} {scope : Scope} {own : List (Str × Nat)} {pos p cpos : Pos} {wi : TI} {fi : EI} {t : TG} {sl : List Nat} {g : GM} {tt : TT} {ft : EM Bool} {te : TE} {fe : EM D} {k n : Nat} {vs : List Nat}
theorem ze_tupG (hvs : own.map (·.2) = vs) (TB : GxR.TabB X.base X.mg c P) (hP : P ∈ Tabs.ad) (hcode : X.env.code = .ref c) (hc : X.calm = true) (hN : X.N.Nodup) (hk : Room n X.A) (hn : k + 7 ≤ n) (hgl : Gl X "tuple") (hm : X.mg "tuple" = none) (hi : ZI X W tg iter wi fi) (ok : BlkOk X.N X.env.scope scope own)
    (hg : ∀ (s : Shared) (H : Hp) (A : Around) (C : Addr) (code : Value) (fp : List Addr) (pn : List (Addr × Obj)), Room k A → ZG (gx X s H A (gEnv X scope C code) fp pn) tg t sl g)
    (ht : ∀ (s : Shared) (H : Hp) (A : Around) (C : Addr) (code : Value) (fp : List Addr) (pn : List (Addr × Obj)), Room k A → ZTs (gx X s H A (gEnv X scope C code) fp pn) W0 ifs tt ft)
    (he : ∀ (s : Shared) (H : Hp) (A : Around) (C : Addr) (code : Value) (fp : List Addr) (pn : List (Addr × Obj)), Room k A → ZE (gx X s H A (gEnv X scope C code) fp pn) W0 elt te fe)
    (hsl : ∀ i ∈ sl, i ∈ vs := by decide) (hco : scope.isCoroutine = false := by rfl) (hcell : (scope.names.all fun y => !decide (y.2 = .cell)) = true := by decide +kernel) (hdot : scope.names.lookup (".0" : Str) = some NameKind.local := by rfl) (hs : ∀ v, genFold iter X.env v = pure v := by intro _; rfl)
    (hst : starEach [.GeneratorExp elt [⟨tg, iter, ifs, 0⟩] scope pos] X.env = (false, eval (.GeneratorExp elt [⟨tg, iter, ifs, 0⟩] scope pos) X.env) :: starEach [] X.env := by rfl) :
    ZE X W (.Call (.Name "tuple" p) [.GeneratorExp elt [⟨tg, iter, ifs, 0⟩] scope pos] [] cpos) (tTupG (tGl P wi t tt te vs)) (zTG vs fi g ft fe) := by
  subst hvs
  have gk : GxOk X c P elt tg iter ifs scope own wi t tt te k := ⟨TB, hcode, ok, hN, hco, fun y hy e => by
    have := List.all_eq_true.mp hcell y hy
    rw [e] at this
    exact absurd this (by decide), hdot, hc, hi.pi, fun s H A C code fp pn r => (hg s H A C code fp pn r).pg, fun s H A C code fp pn r => (ht s H A C code fp pn r).pt, fun s H A C code fp pn r => (he s H A C code fp pn r).pe, hs⟩
  have hr7 : Room (k + 7) X.A := hk.mono hn
  obtain ⟨A0, hA0⟩ : ∃ A : Around, Room k A := ⟨X.A, hk.mono (by omega)⟩
  refine ⟨pe_tupleG (pgen_gx gk (hr7.mono (by omega))) hr7 hgl hm (by decide +kernel) hst, ?_⟩
  intro fr m Hc env S σ H Q z zz q
  refine hi.sd fr m Hc env S σ H _ z zz (q.bnd fun s S1 J m1 Hc1 H1 x1 z1 r1 q1 => ?_)
  refine ⟨(z1.tab P hP).1, fun H2 hT => ?_⟩
  have z2 := z1.tabbed hP hT
  refine lcA_turns (hg X.s_0 X.H_0 A0 0 .none [] [] hA0).sd hsl (ht X.s_0 X.H_0 A0 0 .none [] [] hA0).sd (he X.s_0 X.H_0 A0 0 .none [] [] hA0).sd r1 z2 ((Ze.mono x1 zz).wipe _) q1 fun H' m2 Hc2 S2 acc accv x2 z3 rr p3 => ?_
  intro p hp
  have x3 := (z3.new (o := .tup accv) hp).2
  exact p3.useN z3 hp ⟨p, accv, rfl, upd_same, Reps.mono x3 _ _ rr⟩
theorem ze_qG {pol : Bool} {nm : Str} {stp : V → Option Bool} {r r' : V} (hstp : ∀ y b, tru y = some b → stp y = some (b != pol)) (hr0 : r = .bl pol) (hr1 : r' = .bl (!pol)) (hvs : own.map (·.2) = vs) (TB : GxR.TabB X.base X.mg c P) (hP : P ∈ Tabs.ad) (hcode : X.env.code = .ref c) (hc : X.calm = true) (hN : X.N.Nodup) (hk : Room n X.A) (hn : k + 3 ≤ n) (hi : ZI X W tg iter wi fi) (ok : BlkOk X.N X.env.scope scope own)
    (pe : ∀ gk : GxOk X c P elt tg iter ifs scope own wi t tt te k, PE X (.Call (.Name nm p) [.GeneratorExp elt [⟨tg, iter, ifs, 0⟩] scope pos] [] cpos) (tGq P stp r r' wi t tt te (own.map (·.2))))
    (hg : ∀ (s : Shared) (H : Hp) (A : Around) (C : Addr) (code : Value) (fp : List Addr) (pn : List (Addr × Obj)), Room k A → ZG (gx X s H A (gEnv X scope C code) fp pn) tg t sl g)
    (ht : ∀ (s : Shared) (H : Hp) (A : Around) (C : Addr) (code : Value) (fp : List Addr) (pn : List (Addr × Obj)), Room k A → ZTs (gx X s H A (gEnv X scope C code) fp pn) W0 ifs tt ft)
    (he : ∀ (s : Shared) (H : Hp) (A : Around) (C : Addr) (code : Value) (fp : List Addr) (pn : List (Addr × Obj)), Room k A → ZE (gx X s H A (gEnv X scope C code) fp pn) W0 elt te fe)
    (hsl : ∀ i ∈ sl, i ∈ vs) (hco : scope.isCoroutine = false) (hcell : (scope.names.all fun y => !decide (y.2 = .cell)) = true) (hdot : scope.names.lookup (".0" : Str) = some NameKind.local) (hs : ∀ v, genFold iter X.env v = pure v) :
    ZE X W (.Call (.Name nm p) [.GeneratorExp elt [⟨tg, iter, ifs, 0⟩] scope pos] [] cpos) (tGq P stp r r' wi t tt te vs) (zQG pol vs fi g ft fe) := by
  subst hvs hr0 hr1
  have gk : GxOk X c P elt tg iter ifs scope own wi t tt te k := ⟨TB, hcode, ok, hN, hco, fun y hy e => by
    have := List.all_eq_true.mp hcell y hy
    rw [e] at this
    exact absurd this (by decide), hdot, hc, hi.pi, fun s H A C code fp pn r => (hg s H A C code fp pn r).pg, fun s H A C code fp pn r => (ht s H A C code fp pn r).pt, fun s H A C code fp pn r => (he s H A C code fp pn r).pe, hs⟩
  obtain ⟨A0, hA0⟩ : ∃ A : Around, Room k A := ⟨X.A, hk.mono (by omega)⟩
  refine ⟨pe gk, ?_⟩
  intro fr m Hc env S σ H Q z zz q
  refine hi.sd fr m Hc env S σ H _ z zz (q.bnd fun s S1 J m1 Hc1 H1 x1 z1 r1 q1 => ?_)
  refine ⟨(z1.tab P hP).1, fun H2 hT => ?_⟩
  have z2 := z1.tabbed hP hT
  exact qA_turns hstp (hg X.s_0 X.H_0 A0 0 .none [] [] hA0).sd hsl (ht X.s_0 X.H_0 A0 0 .none [] [] hA0).sd (he X.s_0 X.H_0 A0 0 .none [] [] hA0).sd r1 z2 ((Ze.mono x1 zz).wipe _) q1
    (fun H' m2 Hc2 S2 x2 z3 p3 => p3.use z3 rfl) (fun H' m2 Hc2 S2 x2 z3 p3 => p3.use z3 rfl)
theorem ze_allG (hvs : own.map (·.2) = vs) (TB : GxR.TabB X.base X.mg c P) (hP : P ∈ Tabs.ad) (hcode : X.env.code = .ref c) (hc : X.calm = true) (hN : X.N.Nodup) (hk : Room n X.A) (hn : k + 3 ≤ n) (hgl : Gl X "all") (hm : X.mg "all" = none) (hi : ZI X W tg iter wi fi) (ok : BlkOk X.N X.env.scope scope own)
    (hg : ∀ (s : Shared) (H : Hp) (A : Around) (C : Addr) (code : Value) (fp : List Addr) (pn : List (Addr × Obj)), Room k A → ZG (gx X s H A (gEnv X scope C code) fp pn) tg t sl g)
    (ht : ∀ (s : Shared) (H : Hp) (A : Around) (C : Addr) (code : Value) (fp : List Addr) (pn : List (Addr × Obj)), Room k A → ZTs (gx X s H A (gEnv X scope C code) fp pn) W0 ifs tt ft)
    (he : ∀ (s : Shared) (H : Hp) (A : Around) (C : Addr) (code : Value) (fp : List Addr) (pn : List (Addr × Obj)), Room k A → ZE (gx X s H A (gEnv X scope C code) fp pn) W0 elt te fe)
    (hsl : ∀ i ∈ sl, i ∈ vs := by decide) (hco : scope.isCoroutine = false := by rfl) (hcell : (scope.names.all fun y => !decide (y.2 = .cell)) = true := by decide +kernel) (hdot : scope.names.lookup (".0" : Str) = some NameKind.local := by rfl) (hs : ∀ v, genFold iter X.env v = pure v := by intro _; rfl)
    (hst : starEach [.GeneratorExp elt [⟨tg, iter, ifs, 0⟩] scope pos] X.env = (false, eval (.GeneratorExp elt [⟨tg, iter, ifs, 0⟩] scope pos) X.env) :: starEach [] X.env := by rfl) :
    ZE X W (.Call (.Name "all" p) [.GeneratorExp elt [⟨tg, iter, ifs, 0⟩] scope pos] [] cpos) (tGq P (fun y => (tru y).map (!·)) (.bl true) (.bl false) wi t tt te vs) (zQG true vs fi g ft fe) :=
  ze_qG (fun y b h => by show (tru y).map (!·) = _; rw [h]; cases b <;> rfl) rfl rfl hvs TB hP hcode hc hN hk hn hi ok (fun gk => pe_allG gk (hk.mono hn) hgl hm (by decide +kernel) hst) hg ht he hsl hco hcell hdot hs
theorem ze_anyG (hvs : own.map (·.2) = vs) (TB : GxR.TabB X.base X.mg c P) (hP : P ∈ Tabs.ad) (hcode : X.env.code = .ref c) (hc : X.calm = true) (hN : X.N.Nodup) (hk : Room n X.A) (hn : k + 3 ≤ n) (hgl : Gl X "any") (hm : X.mg "any" = none) (hi : ZI X W tg iter wi fi) (ok : BlkOk X.N X.env.scope scope own)
    (hg : ∀ (s : Shared) (H : Hp) (A : Around) (C : Addr) (code : Value) (fp : List Addr) (pn : List (Addr × Obj)), Room k A → ZG (gx X s H A (gEnv X scope C code) fp pn) tg t sl g)
    (ht : ∀ (s : Shared) (H : Hp) (A : Around) (C : Addr) (code : Value) (fp : List Addr) (pn : List (Addr × Obj)), Room k A → ZTs (gx X s H A (gEnv X scope C code) fp pn) W0 ifs tt ft)
    (he : ∀ (s : Shared) (H : Hp) (A : Around) (C : Addr) (code : Value) (fp : List Addr) (pn : List (Addr × Obj)), Room k A → ZE (gx X s H A (gEnv X scope C code) fp pn) W0 elt te fe)
    (hsl : ∀ i ∈ sl, i ∈ vs := by decide) (hco : scope.isCoroutine = false := by rfl) (hcell : (scope.names.all fun y => !decide (y.2 = .cell)) = true := by decide +kernel) (hdot : scope.names.lookup (".0" : Str) = some NameKind.local := by rfl) (hs : ∀ v, genFold iter X.env v = pure v := by intro _; rfl)
    (hst : starEach [.GeneratorExp elt [⟨tg, iter, ifs, 0⟩] scope pos] X.env = (false, eval (.GeneratorExp elt [⟨tg, iter, ifs, 0⟩] scope pos) X.env) :: starEach [] X.env := by rfl) :
    ZE X W (.Call (.Name "any" p) [.GeneratorExp elt [⟨tg, iter, ifs, 0⟩] scope pos] [] cpos) (tGq P tru (.bl false) (.bl true) wi t tt te vs) (zQG false vs fi g ft fe) :=
  ze_qG (fun y b h => by show tru y = _; rw [h]; cases b <;> rfl) rfl rfl hvs TB hP hcode hc hN hk hn hi ok (fun gk => pe_anyG gk (hk.mono hn) hgl hm hst) hg ht he hsl hco hcell hdot hs
end

/-! ### a def that has a table -/
section
variable {P : Program} {w : World} {K : PySem.W.Frag} {mg : Mg} {base : Heap}
theorem fz_ofT {x : Str} {st : Stmt} {f c : Addr} {fd : FuncData} {N ps : List Str} {k : Nat} {F : List D → Sto → Rs D} {run : SM} (fu : Nat) (gm : mg x = some (.ref f)) (hF : Fun K x x st f fd) (hcode : fd.code = .ref c) (S : FnScope N ps (defScope st)) (hb : Binds K fd ps [])
    (body : ∀ (A : Around) (outer : List Env) (s : Shared) (H : Hp) (E : XK), Room k (A.deeper (envOfC x (defScope st) s.heap.objs.size f (.ref c))) →
      ∃ t, ZSs (cxOf (L2.CX P w) P w K mg base N x (defScope st) f (.ref c) A outer s H E) (fun cls d _ H => E cls d H) (defBody st) t run)
    (impl : ∀ ds S0, ds.length = ps.length → Impl fu S0 (run (startE N ds) S0) (F ds S0)) : FZ P w K mg base (k + 1) x st ps F := by
  refine ⟨f, fd, gm, hF, hb, ?_⟩
  obtain ⟨⟨oc, od, kV, doc, pm, an, cdv, ct, osl, rfl, lk, hcd⟩, _⟩ := id hF
  have ec : cdv = .ref c := hcode
  subst ec
  refine L2.fn_of lk hcd S (fun vs H Q E h => h.1) fun A outer s H vs Q E hr hsp => ?_
  obtain ⟨hl, fr, m, Hc, S0, ds, z, r, p⟩ := hsp
  obtain ⟨t, zs⟩ := body A outer s H E hr
  refine ⟨t, zs.ps, ?_⟩
  have im := impl ds S0 (by rw [← r.length]; exact hl)
  refine zs.sd fr m Hc (startE N ds) S0 (L2.start N vs) H _ z (ze_start r) ?_
  cases h : F ds S0 with
  | stk => rw [h] at p; exact p.elim
  | ok d' S' =>
    rw [h] at p im
    rcases im with ⟨d, S1, e, fi⟩ | ⟨env, S1, e, fi⟩
    · show PstS _ _ _ _ _ _ _ (run (startE N ds) S0)
      rw [e]
      intro v m1 Hc1 H1 x1 z1 r1
      obtain ⟨m2, Hc2, x2, z2, r2⟩ := fin_ok z x1 z1 r1 fi
      exact p v m2 Hc2 H1 x2 z2 r2
    · show PstS _ _ _ _ _ _ _ (run (startE N ds) S0)
      rw [e]
      intro σ1 m1 Hc1 H1 x1 z1 _
      obtain ⟨m2, Hc2, x2, z2, r2⟩ := fin_ok (d := .non) (v := .non) z x1 z1 rfl fi
      exact p .non m2 Hc2 H1 x2 z2 r2
  | exc e S' =>
    rw [h] at p im
    obtain ⟨env, S1, e1, fi⟩ := im
    show PstS _ _ _ _ _ _ _ (run (startE N ds) S0)
    rw [e1]
    intro σ' cls od m1 Hc1 H1 x1 z1 _ r1
    obtain ⟨m2, Hc2, x2, z2, r2⟩ := finX_ok z x1 z1 r1 fi
    exact p cls od m2 Hc2 H1 x2 z2 r2
end
end Z

namespace Z
open PySem L2
open PySem.Spec PyProof.Rows
/-! ### a law's end, with the tables of the defs that have generator expressions -/
/-- the def of this name, its code and its empty table -/
def TabD (mg : Mg) (h : Heap) (nm : Str) (c P : Addr) : Prop := ∃ (f : Addr) (o : Obj) (fd : FuncData), mg nm = some (.ref f) ∧ h.get? f = some o ∧ o.data = .func fd ∧ fd.code = .ref c ∧ PySem.W.CodeHd h c P ∧ h.get? P = some { cls := .none, data := .fields #[] }
/-- the law over a world whose table starts empty -/
abbrev NoX (CX : World → CXT) : Prop := ∀ (w : World) (H : Hp) (s : Shared) (e : Value) (s' : Shared), CX w [] H s (fun _ _ _ => False) e s' → False
theorem walk_ofG {l : PySem.W.OpenLaw} {n k : Nat} {q : Program} {loose : List Str} {XP : (Str → Option Value) → Heap → Prop} {YP : World → Heap → Prop} {d : DefRec} {K : Params → PySem.W.Frag} {CX : World → CXT} {x : Str} (names : List Str)
    (hn : l.most = some n) (hn2 : n ≤ sizeLine) (hdf : d.params.defaults = []) (hr : Room k callerA) (hrec : (names.all fun nm => (recsOf q).any fun e => e.name == nm) = true) (hY : ∀ (w : World) (h : Heap), YP w h → (K w.params).In h)
    (F : ∀ (w : World) (mg : Str → Option Value) (fa : Addr) (h : Heap), YP w h → (K w.params).In h → h.Ns mainGlobals mg → mg d.name = some (.ref fa) → (∀ nm ∈ names, ∃ c P, TabD mg h nm c P) → LamX.LawAtS l w (K w.params) (CX w) k n x mg fa h)
    (noX : NoX CX) : PySem.W.WalkO q loose XP YP l.row.toRowW d [] fun f vs => PySem.call f vs := by
  refine Att.attach_callB hn hdf ?_
  intro w _ s mg _ fa _ _ _ _ a vs ns G Y _ _ _ hmg hobj hints hlen _ hg
  have kin := hY w _ Y
  have tabs : ∀ nm ∈ names, ∃ c P, TabD mg s.heap nm c P := by
    intro nm hm
    have hany := List.all_eq_true.mp hrec nm hm
    rw [List.any_eq_true] at hany
    obtain ⟨r, hr1, hr2⟩ := hany
    obtain rfl := beq_iff_eq.mp hr2
    obtain ⟨f, o, fd, c, P, p1, p2, p3, p4, p5, p6⟩ := G.T.tab r hr1
    exact ⟨c, P, f, o, fd, p1, p2, p3, p4, PySem.W.CodeHd.of p5 p6, p6.2⟩
  obtain ⟨_, _, sp, t1, t2, t3, t4, t5, t6⟩ := F w mg fa _ Y kin G.T.g hmg tabs
  refine LamX.law_callTs kin G.T.g G.T.b G.T.builtins G.T.nolimit hg t1 t2 t3 G.T.bmain hobj hints (Nat.le_trans hlen hn2) hr t6 t4 (fun H hH hS => t5 H a ns hlen ?_ hH hS) fun H e s' => noX w H s e s'
  assumption
/-- the tables of these names -/
theorem tabs_of {mg : Mg} {h : Heap} : ∀ {names : List Str}, (∀ nm ∈ names, ∃ c P, TabD mg h nm c P) → ∃ tb : Str → Addr × Addr, ∀ nm ∈ names, TabD mg h nm (tb nm).1 (tb nm).2
  | [], _ => ⟨fun _ => (0, 0), fun _ h => absurd h (by simp)⟩
  | nm :: r, H => by
    obtain ⟨tb, ht⟩ := tabs_of (names := r) fun n hn => H n (List.mem_cons_of_mem _ hn)
    obtain ⟨c, P, hc⟩ := H nm List.mem_cons_self
    refine ⟨fun n => if n = nm then (c, P) else tb n, fun n hn => ?_⟩
    by_cases e : n = nm
    · simp only [e, if_true]; exact hc
    · simp only [e, if_false]
      exact ht n ((List.mem_cons.mp hn).resolve_left e)
/-- no table is known to the top -/
theorem notab {K : PySem.W.Frag} {h : Heap} {P : Addr} (X : K.In h) (hK : PySem.W.noTabs K = true) (hP : h.get? P = some { cls := .none, data := .fields #[] }) : K.lookup P = none := by
  cases q : K.lookup P with
  | none => rfl
  | some o =>
    have e := X P o q
    rw [hP] at e
    cases e
    have h2 := List.all_eq_true.mp hK (P, _) (PySem.W.mem_of_lookupK q)
    exact nomatch (show false = true from h2)
theorem tabD_code {mg : Mg} {h : Heap} {nm : Str} {c P f : Addr} {K : PySem.W.Frag} {o : Obj} {fd : FuncData} (X : K.In h) (t : TabD mg h nm c P) (hm : mg nm = some (.ref f)) (l : K.lookup f = some o) (hd : o.data = .func fd) : fd.code = .ref c := by
  obtain ⟨f', o', fd', h1, h2, h3, h4, _⟩ := t
  rw [hm] at h1
  cases h1
  have e := X f o l
  rw [h2] at e
  cases e
  rw [h3] at hd
  cases hd
  exact h4
section
variable [Tabs]
def spLawG (K : PySem.W.Frag) : Sp := fun vs H Q E => ∃ (a : Addr) (ns : List Int), vs = [.ref a] ∧ SqL K H a (ns.map V.int) ∧ ns.length ≤ 63 ∧ (∀ P ∈ Tabs.ad, H P = some (.tbl #[])) ∧ ∀ H', Q (.bl true) H'
theorem sp_lawG {K : PySem.W.Frag} {mg : Mg} {vs : List V} {H : Hp} {Q : VK} {E : XK} {F : List D → Sto → Rs D} (ev : ∀ ns : List Int, ns.length ≤ 63 → ∃ S, F [.rol ns] [] = .ok (.bl true) S) (h : spLawG K vs H Q E) : zSp K mg 1 F vs H Q E := by
  obtain ⟨a, ns, rfl, hS, hl, hT, hQ⟩ := h
  obtain ⟨S, hev⟩ := ev ns hl
  have nt : ∀ P ∈ Tabs.ad, P ≠ a ∨ ¬ Rd H a (.lst (ns.map V.int)) := fun P hP => by
    by_cases e : P = a
    · refine .inr fun r => ?_
      have h1 := hT P hP
      rw [e] at h1
      rcases r with r | ⟨o, r⟩ <;> (rw [h1] at r; cases r)
    · exact .inl e
  let Hc : Hp := fun b => if b ∈ Tabs.ad then none else H b
  have hsub : Same Hc H := fun b u e => by
    by_cases hb : b ∈ Tabs.ad
    · have : Hc b = none := if_pos hb
      rw [this] at e; cases e
    · have : Hc b = H b := if_neg hb
      rw [this] at e; exact e
  have hS' : SqL K Hc a (ns.map V.int) := by
    rcases hS with r | r
    · have na : a ∉ Tabs.ad := fun hm => (nt a hm).elim (fun q => q rfl) fun q => q r
      have e : Hc a = H a := if_neg na
      rcases r with r | ⟨o, r⟩
      · exact .inl (.inl (e.trans r))
      · exact .inl (.inr ⟨o, e.trans r⟩)
    · exact .inr r
  refine ⟨rfl, [], [], Hc, [], [.rol ns], ⟨hsub, rfl, List.nodup_nil, fun n a c h => by simp at h, fun p h => by simp at h, List.nodup_nil, fun P hP => ⟨⟨#[], hT P hP, by trivial⟩, if_pos hP, by simp, fun p h => by simp at h⟩⟩, ⟨_, _, rfl, ⟨a, rfl, hS'⟩, rfl⟩, ?_⟩
  rw [hev]
  intro b m' Hc' H' _ _ r
  cases r
  exact hQ H'
end
end Z

namespace Z
open PySem L2 StX
open PySem.Spec PyProof.Rows
variable [Tabs]
/-! ### displays with starred items -/
/-- items of any number -/
structure ZAs (X : Cx) (W : WX) (es : List Expr) (t : TA) (f : EM (List D)) : Prop where
  pa : PA X es t
  sd : SA X.K X.mg W t f
def zStar (a : EM D) (r : EM (List D)) : EM (List D) := fun env S => (a env S).bnd fun x S1 => match anyOf x S1 with
  | some ds => (r env S1).bnd fun xs S2 => .ok (ds ++ xs) S2
  | none => .stk
section
variable {X : Cx} {W : WX} {pos : Pos} {e : Expr} {es : List Expr} {te : TE} {fe : EM D} {t : TA} {f : EM (List D)}
theorem zas_nil : ZAs X W [] tNil zNil := ⟨(za_nil (W := W)).pa, (za_nil (X := X)).sd⟩
theorem zas_cons (he : ZE X W e te fe) (hs : ZAs X W es t f) (hst : starEach (e :: es) X.env = (false, eval e X.env) :: starEach es X.env := by rfl) : ZAs X W (e :: es) (tCons te t) (zCons fe f) := by
  refine ⟨pa_cons he.pe hs.pa hst, fun fr m Hc env S σ H Q z zz p => ?_⟩
  refine he.sd fr m Hc env S σ H _ z zz (p.bnd fun x S1 v m1 Hc1 H1 x1 z1 r1 p1 => ?_)
  refine hs.sd fr m1 Hc1 env S1 σ H1 _ z1 (Ze.mono x1 zz) (p1.bnd fun xs S2 vs m2 Hc2 H2 x2 z2 r2 p2 => ?_)
  exact p2.use z2 ⟨v, vs, rfl, Rep.mono x2 _ _ r1, r2⟩
theorem Reps.app {K : PySem.W.Frag} {Hc : Hp} {m : List Addr} : ∀ {ds : List D} {vs : List V} {es : List D} {ws : List V}, Reps K Hc m ds vs → Reps K Hc m es ws → Reps K Hc m (ds ++ es) (vs ++ ws)
  | [], _, _, _, h, h' => by cases h; exact h'
  | _ :: _, _, _, _, h, h' => by
    obtain ⟨v, vs, rfl, h1, h2⟩ := h
    exact ⟨v, _, rfl, h1, Reps.app h2 h'⟩
theorem zas_star {p : Pos} (he : ZE X W e te fe) (hs : ZAs X W es t f) (hst : starEach (.Starred e p :: es) X.env = (true, eval e X.env) :: starEach es X.env := by rfl) : ZAs X W (.Starred e p :: es) (tStar X.K te t) (zStar fe f) := by
  refine ⟨pa_star he.pe hs.pa hst, fun fr m Hc env S σ H Q z zz p => ?_⟩
  refine he.sd fr m Hc env S σ H _ z zz (p.bnd fun x S1 v m1 Hc1 H1 x1 z1 r1 p1 => ?_)
  cases ha : anyOf x S1 with
  | none => rw [ha] at p1; exact p1.elim
  | some ds =>
    rw [ha] at p1
    obtain ⟨a, vs, rfl, hq, rr⟩ := z1.any r1 ha
    refine ⟨a, vs, rfl, hq.symm, ?_⟩
    refine hs.sd fr m1 Hc1 env S1 σ H1 _ z1 (Ze.mono x1 zz) (p1.bnd fun xs S2 ws m2 Hc2 H2 x2 z2 r2 p2 => ?_)
    exact p2.use z2 (Reps.app (Reps.mono x2 _ _ rr) r2)
theorem ze_lstS (ha : ZAs X W es t f) : ZE X W (.List es pos) (tLst t) (zLst f) := by
  refine ⟨pe_lst ha.pa, fun fr m Hc env S σ H Q z zz p => ?_⟩
  refine ha.sd fr m Hc env S σ H _ z zz (p.bnd fun xs S1 vs m1 Hc1 H1 x1 z1 r1 p1 => ?_)
  by_cases h : xs.length ≤ bigN
  · rw [if_pos h] at p1
    refine ⟨by rw [r1.length]; exact big_le h, fun q hq => p1.useN z1 hq ?_⟩
    exact ⟨q, vs, rfl, upd_same, Reps.mono (z1.new hq).2 _ _ r1⟩
  · rw [if_neg h] at p1; exact p1.elim
end
/-! ### a list taken apart -/
def zgUnl (n : Nat) (gs : List D → En → Option En) : GM := fun d env => match d with
  | .lst ds => if ds.length = n then gs ds env else none
  | _ => none
section
variable {X : Cx} {pos : Pos} {es : List Expr} {ts : TGs} {sl : List Nat} {gs : List D → En → Option En}
theorem zg_unlK {K : PySem.W.Frag} {k n : Nat} (hK : X.K = K) (hc : X.calm = true) (h : ZGs X es ts sl gs) (hn : (assignEach es X.env).length = n := by rfl) (hst : (assignEach es X.env).findIdx? (·.1) = none := by rfl) : ZG X (.Tuple es k pos) (gUnl K n ts) sl (zgUnl n gs) := by
  subst hK
  refine ⟨pg_unl hc h.pg hn hst, fun fr m Hc S H v d env env' σ Q z r zz eg q => ?_⟩
  cases d <;> first | cases eg; done | skip
  rename_i ds
  obtain ⟨a, vs, rfl, hq, rr⟩ := z.seq (ds := ds) r rfl
  unfold zgUnl at eg
  by_cases hl : ds.length = n
  · simp only [if_pos hl] at eg
    exact ⟨a, vs, rfl, hq, by rw [rr.length]; exact hl, h.sd fr m Hc S H vs ds env env' σ Q z rr zz eg q⟩
  · simp only [if_neg hl] at eg; cases eg
end
end Z

namespace Z
open PySem L2
open PySem.Spec PyProof.Rows
variable [Tabs]
/-! ### powers -/
def dPow : D → D → Sto → Rs D := dI2 CPow fun i j => .int (i ^ j.toNat)
theorem zo_pow {X : Cx} : ZO X (binaryOp .Pow) (L2.rI CPow fun i j => V.int (i ^ j.toNat)) dPow := ⟨op_pow, os_I (fun _ _ h => h) fun _ _ _ _ _ => rfl⟩
end Z

namespace Z
open PySem L2
open PySem.Spec PyProof.Rows
variable [Tabs]
/-! ### dicts: keys and values side by side -/
def findK (ks : List Key) (k : Key) : Option Nat := ks.findIdx? fun j => decide (j = k)
theorem findK_cons (j k : Key) (ks : List Key) : findK (j :: ks) k = if j = k then some 0 else (findK ks k).map (· + 1) := by
  unfold findK
  rw [List.findIdx?_cons]
  by_cases e : j = k <;> simp [e]
theorem valV_zip (k : Key) : ∀ (ks : List Key) (vs : List V), valV (ks.zip vs) k = (findK ks k).bind fun i => vs[i]?
  | [], vs => rfl
  | j :: ks, [] => by
    rw [List.zip_nil_right]
    cases findK (j :: ks) k <;> rfl
  | j :: ks, v :: vs => by
    rw [List.zip_cons_cons, findK_cons]
    by_cases e : j = k
    · rw [valV_pos e, if_pos e]; rfl
    · rw [valV_neg e, if_neg e, valV_zip k ks vs]
      cases findK ks k <;> simp
theorem findK_lt {k : Key} : ∀ {ks : List Key} {i : Nat}, findK ks k = some i → i < ks.length
  | [], _, h => by cases h
  | j :: ks, i, h => by
    rw [findK_cons] at h
    by_cases e : j = k
    · rw [if_pos e] at h; cases h; simp
    · rw [if_neg e] at h
      cases h2 : findK ks k with
      | none => rw [h2] at h; cases h
      | some q =>
        rw [h2] at h; cases h
        have := findK_lt h2
        simp; omega
theorem findK_mem {k : Key} : ∀ {ks : List Key} {i : Nat}, findK ks k = some i → k ∈ ks
  | [], _, h => by cases h
  | j :: ks, i, h => by
    rw [findK_cons] at h
    by_cases e : j = k
    · rw [e]; exact List.mem_cons_self
    · rw [if_neg e] at h
      cases h2 : findK ks k with
      | none => rw [h2] at h; cases h
      | some q => exact List.mem_cons_of_mem _ (findK_mem h2)
theorem map_keep {k : Key} {v : V} : ∀ (ks : List Key) (vs : List V), k ∉ ks → ((ks.zip vs).map fun kv => if kv.1 = k then (kv.1, v) else kv) = ks.zip vs
  | [], vs, _ => rfl
  | j :: ks, [], _ => by rw [List.zip_nil_right]; rfl
  | j :: ks, u :: vs, h => by
    have h1 : ¬ j = k := fun e => h (e ▸ List.mem_cons_self)
    rw [List.zip_cons_cons, List.map_cons, map_keep ks vs fun q => h (List.mem_cons_of_mem _ q)]
    simp [h1]
theorem map_set {k : Key} {v : V} : ∀ (ks : List Key) (vs : List V) (i : Nat), findK ks k = some i → ks.Nodup → ((ks.zip vs).map fun kv => if kv.1 = k then (kv.1, v) else kv) = ks.zip (vs.set i v)
  | [], _, _, h, _ => by cases h
  | j :: ks, [], i, _, _ => by rw [List.zip_nil_right]; simp
  | j :: ks, u :: vs, i, h, nd => by
    have ⟨n1, n2⟩ := List.nodup_cons.mp nd
    rw [findK_cons] at h
    rw [List.zip_cons_cons, List.map_cons]
    by_cases e : j = k
    · rw [if_pos e] at h; cases h
      rw [map_keep ks vs (e ▸ n1)]
      simp [e]
    · rw [if_neg e] at h
      cases h2 : findK ks k with
      | none => rw [h2] at h; cases h
      | some q =>
        rw [h2] at h; cases h
        rw [map_set ks vs q h2 n2]
        simp [e]
theorem putK_zip {k : Key} {v : V} {ks : List Key} {vs : List V} {i : Nat} (h : findK ks k = some i) (nd : ks.Nodup) (hl : ks.length = vs.length) : putK (ks.zip vs) k v = ks.zip (vs.set i v) := by
  have hi : i < vs.length := hl ▸ findK_lt h
  have : ((ks.zip vs).any fun kv => decide (kv.1 = k)) = true := by
    rw [valV_any, valV_zip, h]
    simp [hi]
  unfold putK
  rw [if_pos this, map_set ks vs i h nd]
theorem putK_zipN {k : Key} {v : V} {ks : List Key} {vs : List V} (h : findK ks k = none) (hl : ks.length = vs.length) : putK (ks.zip vs) k v = (ks ++ [k]).zip (vs ++ [v]) := by
  rw [putK_new _ (by rw [valV_zip, h]; rfl), List.zip_append hl]
  rfl
theorem merge_zip : ∀ (ks : List Key) (vs : List V) (js : List Key) (us : List V), ks.length = vs.length → js.length = us.length → (js ++ ks).Nodup → mergeK (js.zip us) (ks.zip vs) = (js ++ ks).zip (us ++ vs)
  | [], [], js, us, _, _, _ => by simp [mergeK]
  | [], _ :: _, _, _, h, _, _ => by cases h
  | _ :: _, [], _, _, h, _, _ => by cases h
  | k :: ks, v :: vs, js, us, h, h2, nd => by
    have hn : findK js k = none := by
      cases e : findK js k with
      | none => rfl
      | some i =>
        have := findK_mem e
        have nd2 := List.nodup_append.mp nd
        exact absurd rfl (nd2.2.2 k this k List.mem_cons_self)
    show mergeK (putK (js.zip us) k v) (ks.zip vs) = _
    rw [putK_zipN hn h2, merge_zip ks vs (js ++ [k]) (us ++ [v]) (by simpa using h) (by simp [h2]) (by simpa using nd)]
    simp

def dctOf (d : D) (S : Sto) : Option (List Key × List D) := match d with
  | .dct ks ds => some (ks, ds)
  | .ptr n => match S[n]? with
    | some (.dct ks ds) => some (ks, ds)
    | _ => none
  | _ => none
def dKey : D → Option Key
  | .int i => some (.inl i)
  | .str x => some (.inr x)
  | _ => none
section
variable {K : PySem.W.Frag} {mg : Mg} {fr : List (Addr × HO)} {m : List Addr} {Hc : Hp} {S : Sto} {H : Hp}
theorem Zh.dct (z : Zh K fr m Hc S H) {d : D} {v : V} {q : List Key × List D} (r : Rep K Hc m d v) (e : dctOf d S = some q) : ∃ a vs, v = .ref a ∧ H a = some (.dK (q.1.zip vs)) ∧ q.1.length = q.2.length ∧ Reps K Hc m q.2 vs := by
  unfold dctOf at e
  cases d <;> first | cases e; done | skip
  case dct ks ds =>
    cases e
    obtain ⟨a, vs, rfl, h, hl, rr⟩ := r
    exact ⟨a, vs, rfl, z.sub _ _ h, hl, rr⟩
  case ptr n =>
    obtain ⟨a, rfl, hn⟩ := r
    cases h : S[n]? with
    | none => simp [h] at e
    | some c =>
      cases c with
      | gone => simp [h] at e
      | lst ds => simp [h] at e
      | dct ks ds =>
        simp only [h] at e
        cases e
        obtain ⟨_, vs, h1, h2, h3⟩ := z.cel n a _ hn h
        exact ⟨a, vs, rfl, h1, h2, h3⟩
theorem rep_key {k : D} {y : V} {key : Key} (r : Rep K Hc m k y) (e : dKey k = some key) : y = kV key := by
  cases k <;> cases e <;> exact r
def dGetD (x k : D) (S : Sto) : Rs D := match dctOf x S, dKey k with
  | some p, some q => match (findK p.1 q).bind fun i => p.2[i]? with
    | some d => .ok d S
    | none => .stk
  | _, _ => .stk
def rGetD : R2 := fun x y H Q => ∃ a v, x = .ref a ∧ DGet H a y (some v) ∧ Q v H
theorem os_dget : OS K mg rGetD dGetD := by
  intro fr m Hc S H x y dx dy w Q z r1 r2 p
  unfold dGetD at p
  cases h : dctOf dx S with
  | none => simp only [h] at p; exact p.elim
  | some q =>
    cases h2 : dKey dy with
    | none => simp only [h, h2] at p; exact p.elim
    | some key =>
      simp only [h, h2] at p
      cases h3 : (findK q.1 key).bind fun i => q.2[i]? with
      | none => simp only [h3] at p; exact p.elim
      | some d =>
        simp only [h3] at p
        obtain ⟨a, vs, rfl, hH, hl, rr⟩ := z.dct r1 h
        have ek := rep_key r2 h2
        subst ek
        obtain ⟨i, hi, hd⟩ := Option.bind_eq_some_iff.mp h3
        obtain ⟨v, hv, rv⟩ := rr.get hd
        refine ⟨a, v, rfl, ?_, p.use z rv⟩
        have := DGet.k (k := key) hH
        rw [valV_zip, hi] at this
        have e : ((some i).bind fun i => vs[i]?) = some v := hv
        rw [e] at this
        exact this
end
section
variable {X : Cx} {K : PySem.W.Frag} {W : WX} {pos pos' tpos : Pos} {o i e : Expr} {to ti te : TE} {fo fi fe : EM D}
theorem ze_dget {k : Nat} (hr : Room k X.A) (ho : ZE X W o to fo) (hi : ZE X W i ti fi) (hs : NoSl i := by exact fun _ _ => rfl) : ZE X W (.Subscript o i pos) (tOp rGetD to ti) (zOp dGetD fo fi) :=
  ⟨pe_dget (by have := hr.units; omega) ho.pe hi.pe hs, se_op ho.sd hi.sd os_dget⟩
end
/-! ### writing -/
section
variable {K : PySem.W.Frag} {mg : Mg} {fr : List (Addr × HO)} {m : List Addr} {Hc : Hp} {S : Sto} {H : Hp}
theorem Zh.wrG (z : Zh K fr m Hc S H) {n : Nat} {a : Addr} {c c' : C} {o : HO} (hn : m[n]? = some a) (hs : S[n]? = some c) (hc : Hc a = none) (new : ∀ H' : Hp, H' a = some o → COk K Hc m H' a c') : Zh K fr m Hc (S.set n c') (upd H a o) := by
  have x := Ex.refl m Hc
  refine ⟨fun b u e => ?_, by simp [z.len], z.nd, fun k b c h1 h2 => ?_, fun q hq => ?_, z.fnd, fun P hP => let h := z.tab P hP; ⟨TabG.upd h.1 (h.ne_m hn), h.2⟩⟩
  · have nb : b ≠ a := ne_of_none e hc
    rw [upd_ne nb]; exact z.sub b u e
  · by_cases hk : n = k
    · subst hk
      have eab : b = a := Option.some.inj (h1.symm.trans hn)
      subst eab
      have hl : n < S.length := (List.getElem?_eq_some_iff.mp hs).1
      rw [List.getElem?_set_self hl] at h2
      cases h2
      exact new _ upd_same
    · rw [List.getElem?_set_ne hk] at h2
      have na : b ≠ a := fun e => hk (nd_ix z.nd hn (e ▸ h1))
      refine COk.mono x ?_ (upd_ne na) (z.cel k b c h1 h2)
      cases ebh : Hc b with
      | none => exact .inl rfl
      | some u => exact .inr ⟨u, rfl⟩
  · obtain ⟨h1, h2, h3⟩ := z.frm q hq
    have nq : q.1 ≠ a := fun e => h3 (e ▸ List.mem_of_getElem? hn)
    exact ⟨by rw [upd_ne nq]; exact h1, h2, h3⟩
/-- what is framed goes into the store -/
theorem Zh.unframeG {p : Addr} {o : HO} {c : C} (z : Zh K ((p, o) :: fr) m Hc S H) (new : ∀ m', Ex m Hc m' Hc → COk K Hc m' H p c) : Zh K fr (m ++ [p]) Hc (S ++ [c]) H ∧ Ex m Hc (m ++ [p]) Hc := by
  obtain ⟨hH, hc, pm⟩ := z.frm (p, o) List.mem_cons_self
  have nd := z.fnd
  replace nd := List.nodup_cons.mp nd
  have x : Ex m Hc (m ++ [p]) Hc := ⟨⟨[p], rfl⟩, Same.refl _⟩
  refine ⟨⟨z.sub, by simp [z.len], ?_, fun n a c' h1 h2 => ?_, fun q hq => ?_, nd.2, fun P hP => let h := z.tab P hP; have np : P ≠ p := Ne.symm (h.2.2.2 (p, o) List.mem_cons_self); ⟨h.1, h.2.1, fun hm => (List.mem_append.mp hm).elim h.2.2.1 fun e => np (by simpa using e), fun q hq => h.2.2.2 q (List.mem_cons_of_mem _ hq)⟩⟩, x⟩
  · refine List.nodup_append.mpr ⟨z.nd, List.nodup_cons.mpr ⟨List.not_mem_nil, List.nodup_nil⟩, fun a ha b hb eab => ?_⟩
    have eb : b = p := List.mem_singleton.mp hb
    exact pm (eb ▸ eab ▸ ha)
  · by_cases hn : n < m.length
    · rw [List.getElem?_append_left hn] at h1
      rw [List.getElem?_append_left (by rw [← z.len]; exact hn)] at h2
      refine COk.mono x ?_ rfl (z.cel n a c' h1 h2)
      cases eah : Hc a with
      | none => exact .inl rfl
      | some u => exact .inr ⟨u, rfl⟩
    · have hle : m.length ≤ n := Nat.le_of_not_lt hn
      have e0 : n = m.length := by
        have := (List.getElem?_eq_some_iff.mp h1).1
        rw [List.length_append, List.length_singleton] at this
        omega
      subst e0
      rw [List.getElem?_append_right (Nat.le_refl _), Nat.sub_self] at h1
      rw [z.len, List.getElem?_append_right (Nat.le_refl _), Nat.sub_self] at h2
      cases h1; cases h2
      exact new _ x
  · obtain ⟨h1, h2, h3⟩ := z.frm q (List.mem_cons_of_mem _ hq)
    have nq : q.1 ≠ p := fun e => nd.1 (List.mem_map.mpr ⟨q, hq, e⟩)
    exact ⟨h1, h2, fun hm => (List.mem_append.mp hm).elim h3 fun h => nq (List.mem_singleton.mp h)⟩
def dctMax : Nat := 1000000
def dPutS (x k v : D) (S : Sto) : Option Sto := match x, dKey k with
  | .ptr n, some key => match S[n]? with
    | some (.dct ks ds) => if ks.length < dctMax ∧ ks.Nodup then (match findK ks key with
      | some i => some (S.set n (.dct ks (ds.set i v)))
      | none => some (S.set n (.dct (ks ++ [key]) (ds ++ [v])))) else none
    | _ => none
  | _, _ => none
theorem dPutS_ok {S'} {x k v : D} {xv kv vv : V} {Q : Hp → Prop} (z : Zh K fr m Hc S H) (rx : Rep K Hc m x xv) (rk : Rep K Hc m k kv) (rv : Rep K Hc m v vv) (e : dPutS x k v S = some S') (q : ∀ H', Zh K fr m Hc S' H' → Q H') :
    ∃ a H4, xv = .ref a ∧ DPut H a kv vv H4 ∧ Q H4 := by
  unfold dPutS at e
  cases x <;> first | cases e; done | skip
  rename_i n
  obtain ⟨a, rfl, hn⟩ := rx
  cases h2 : dKey k with
  | none => simp only [h2] at e; cases e
  | some key =>
    simp only [h2] at e
    have ek := rep_key rk h2
    subst ek
    cases h : S[n]? with
    | none => simp [h] at e
    | some c =>
      cases c with
      | gone => simp [h] at e
      | lst ds => simp [h] at e
      | dct ks ds =>
        simp only [h] at e
        obtain ⟨hc, vs, h1, hl, rr⟩ := z.cel n a _ hn h
        have hlv : ks.length = vs.length := hl.trans rr.length.symm
        by_cases hb : ks.length < dctMax ∧ ks.Nodup
        · rw [if_pos hb] at e
          have hz : (ks.zip vs).length < sizeLine := by
            rw [List.length_zip, ← hlv, Nat.min_self, sizeLine_eq]
            have : dctMax = 1000000 := rfl
            omega
          cases h3 : findK ks key with
          | some i =>
            simp only [h3] at e
            cases e
            refine ⟨a, _, rfl, DPut.k h1 hz, ?_⟩
            rw [putK_zip h3 hb.2 hlv]
            exact q _ (z.wrG hn h hc fun H' hH => ⟨hc, _, hH, by simp [hl], rr.set i rv⟩)
          | none =>
            simp only [h3] at e
            cases e
            refine ⟨a, _, rfl, DPut.k h1 hz, ?_⟩
            rw [putK_zipN h3 hlv]
            exact q _ (z.wrG hn h hc fun H' hH => ⟨hc, _, hH, by simp [hl], rr.append (Reps.one rv)⟩)
        · rw [if_neg hb] at e; cases e
end
def zPutD (o i e : EM D) : SM := fun env S => (e env S).st env fun v S1 => (o env S1).st env fun x S2 => (i env S2).st env fun y S3 => match dPutS x y v S3 with
  | some S4 => .mk (.next env) S4
  | none => .stk
section
variable {X : Cx} {K : PySem.W.Frag} {W : WX} {pos pos' tpos : Pos} {o i e : Expr} {to ti te : TE} {fo fi fe : EM D}
theorem zs_dput {k : Nat} (hr : Room k X.A) (ho : ZE X W o to fo) (hi : ZE X W i ti fi) (he : ZE X W e te fe) (hs : swapsWith e (some (.Subscript o i pos')) pos.line X.env = pure false := by rfl) : ZS X W (.Assign [.Subscript o i pos'] e pos) (sDPut to ti te) (zPutD fo fi fe) := by
  refine ⟨ps_dput (by have := hr.units; omega) ho.pe hi.pe he.pe hs, ?_⟩
  intro fr m Hc env S σ H E z zz p
  refine he.sd fr m Hc env S σ H _ z zz (p.bnd zz fun d S1 v m1 Hc1 H1 x1 z1 r1 p1 => ?_)
  refine ho.sd fr m1 Hc1 env S1 σ H1 _ z1 (Ze.mono x1 zz) (p1.bnd (Ze.mono x1 zz) fun x S2 ov m2 Hc2 H2 x2 z2 r2 p2 => ?_)
  have zz2 := Ze.mono (x1.trans x2) zz
  refine hi.sd fr m2 Hc2 env S2 σ H2 _ z2 zz2 (p2.bnd zz2 fun y S3 iv m3 Hc3 H3 x3 z3 r3 p3 => ?_)
  cases h : dPutS x y d S3 with
  | none => simp [h] at p3; exact p3.elim
  | some S4 =>
    simp only [h] at p3
    exact dPutS_ok z3 (Rep.mono x3 _ _ r2) r3 (Rep.mono (x2.trans x3) _ _ r1) h fun H' z' => p3 σ m3 Hc3 H' (Ex.refl _ _) z' (Ze.mono x3 zz2)
end
/-! ### displays -/
structure ZDs (X : Cx) (ks : List Key) (pos : Pos) (keys : List (Option Expr)) (vs : List Expr) (trs : List (TE × TE)) (f : EM (List D)) : Prop where
  pp : PPs X pos keys vs trs
  sd : ∀ fr m Hc env S σ H (Q : List (V × V) → Hp → Prop), Zh X.K fr m Hc S H → Ze X.K Hc m env σ → Pst X.K X.mg fr (fun Hc m ds vs => Reps X.K Hc m ds vs) m Hc (fun _ _ _ => False) (fun vs H => Q ((ks.map kV).zip vs) H) (f env S) → tPairs trs σ H Q
def zdCons (fe : EM D) (f : EM (List D)) : EM (List D) := fun env S => (fe env S).nox.bnd fun x S1 => (f env S1).bnd fun xs S2 => .ok (x :: xs) S2
def Mk.resD : Mk → List Key → List D → Sto → Rs D
  | .frz, ks, ds, S => .ok (.dct ks ds) S
  | .cel, ks, ds, S => .ok (.ptr S.length) (S ++ [.dct ks ds])
def zDict (k : Mk) (ks : List Key) (f : EM (List D)) : EM D := fun env S => (f env S).nox.bnd fun ds S1 => if ds.length = ks.length then k.resD ks ds S1 else .stk
section
variable {X : Cx} {K : PySem.W.Frag} {W : WX} {pos pos' p1 : Pos} {e : Expr} {vs : List Expr} {te : TE} {fe : EM D} {ks : List Key} {keys : List (Option Expr)} {trs : List (TE × TE)} {f : EM (List D)}
theorem zd_nil : ZDs X [] pos [] [] [] zNil := ⟨pps_nil, fun fr m Hc env S σ H Q z zz p => p.use (b := []) z rfl⟩
theorem zd_str {j} {x : Str} (he : ZE X W0 e te fe) (h : ZDs X ks pos keys vs trs f) : ZDs X (.inr x :: ks) pos (some (.Constant (.str x) j p1) :: keys) (e :: vs) ((tC (.str x), te) :: trs) (zdCons fe f) := by
  refine ⟨pps_cons pe_str he.pe h.pp, fun fr m Hc env S σ H Q z zz p => ?_⟩
  refine he.sd fr m Hc env S σ H _ z zz (p.bnd0 fun x S1 v m1 Hc1 H1 x1 z1 r1 p1 => ?_)
  refine h.sd fr m1 Hc1 env S1 σ H1 _ z1 (Ze.mono x1 zz) (p1.bnd fun xs S2 us m2 Hc2 H2 x2 z2 r2 p2 => ?_)
  exact p2.use (b := v :: us) z2 ⟨v, us, rfl, Rep.mono x2 _ _ r1, r2⟩
theorem kvs_map : ∀ (ks : List Key) (us : List V), (ks.map kV).zip us = (ks.zip us).map fun kv => (kV kv.1, kv.2)
  | [], _ => rfl
  | _ :: _, [] => rfl
  | k :: ks, u :: us => by simp [kvs_map ks us]
theorem ze_dict (k : Mk) (h : ZDs X ks pos keys vs trs f) (nd : ks.Nodup) (h15 : ks.length ≤ 15 := by decide) (hall : keys.all (·.isSome) = true := by rfl) (hl : keys.length = vs.length := by rfl) (h0 : keys ≠ [] := by exact fun z => nomatch z) (hk : keys.length ≤ 15 := by decide) :
    ZE X W (.Dict keys vs pos) (tDisp trs) (zDict k ks f) := by
  refine ⟨pe_disp h.pp hall hl h0 hk, fun fr m Hc env S σ H Q z zz p => ?_⟩
  intro pa hD
  have p : Pst X.K X.mg fr (fun Hc m d v => Rep X.K Hc m d v) m Hc (fun c o H => W c o σ H) Q ((f env S).nox.bnd fun ds S1 => if ds.length = ks.length then k.resD ks ds S1 else .stk) := p
  refine h.sd ((pa, .dK []) :: fr) m Hc env S σ _ _ (z.frame hD) zz (p.bnd0 fun ds S1 us m1 Hc1 H1 x1 z1 r1 p1 => ?_)
  by_cases hlen : ds.length = ks.length
  · rw [if_pos hlen] at p1
    have hlu : ks.length = us.length := by rw [r1.length, hlen]
    refine ⟨(z1.frm _ List.mem_cons_self).1, ks.zip us, kvs_map ks us, by rw [List.length_zip]; omega, ?_⟩
    have em : mergeK [] (ks.zip us) = ks.zip us := by
      have := merge_zip ks us [] [] hlu rfl (by simpa using nd)
      simpa using this
    rw [em]
    have z2 := z1.reframe (o' := .dK (ks.zip us))
    cases k with
    | frz =>
      obtain ⟨z3, x3⟩ := z2.unframe
      exact p1 _ _ _ _ x3 z3 ⟨pa, us, rfl, upd_same, hlen.symm, Reps.mono x3 _ _ r1⟩
    | cel =>
      have hc : Hc1 pa = none := (z1.frm _ List.mem_cons_self).2.1
      obtain ⟨z3, x3⟩ := z2.unframeG (c := .dct ks ds) fun m' x => ⟨hc, us, upd_same, hlen.symm, Reps.mono x _ _ r1⟩
      exact p1 _ _ _ _ x3 z3 ⟨pa, rfl, by rw [← z1.len, List.getElem?_append_right (Nat.le_refl _)]; simp⟩
  · rw [if_neg hlen] at p1; exact p1.elim
end
end Z

namespace Z
open PySem L2
open PySem.Spec PyProof.Rows
variable [Tabs]
/-! ### list(range(n)), tuple(range(n)) -/
inductive RgK where
  | lst | cel | tup
def RgK.res : RgK → List D → Sto → Rs D
  | .lst, ds, S => .ok (.lst ds) S
  | .cel, ds, S => .ok (.ptr S.length) (S ++ [.lst ds])
  | .tup, ds, S => .ok (.tup ds) S
def zRgA (k : RgK) (fa : EM D) : EM D := fun env S => (fa env S).bnd fun d S1 => match d with
  | .int n => if n ≤ 1000000 ∧ -1000000 ≤ n then k.res (rangeD 0 n) S1 else .stk
  | _ => .stk
theorem reps_rg {K Hc m} (i : Int) : Reps K Hc m (rangeD 0 i) (rgV 0 i) := by
  unfold rangeD rgV
  generalize List.range (i - 0).toNat = l
  induction l with
  | nil => rfl
  | cons a l ih => exact ⟨_, _, rfl, rfl, ih⟩
theorem rg_ok {i : Int} (h : i ≤ 1000000 ∧ -1000000 ≤ i) : RgOk 0 i := ⟨by omega, by omega, by omega, by omega, by omega⟩
section
variable {X : Cx} {W : WX} {pos p p1 pos1 : Pos} {a : Expr} {ta : TE} {fa : EM D}
theorem rg_sd {K mg} {k : RgK} (ha : SE K mg W ta fa) (hk : k ≠ .tup) : SE K mg W (tLstRg (tRg1 ta)) (zRgA k fa) := by
  intro fr m Hc env S σ H Q z zz q
  refine ha fr m Hc env S σ H _ z zz (q.bnd fun d S1 v m1 Hc1 H1 x1 z1 r1 q1 => ?_)
  cases d <;> first | exact q1.elim | skip
  rename_i i
  cases r1
  by_cases hb : i ≤ 1000000 ∧ -1000000 ≤ i
  · simp only [if_pos hb] at q1
    refine ⟨i, rfl, rg_ok hb, fun l hl => ?_⟩
    cases k with
    | tup => exact absurd rfl hk
    | lst => exact q1.useN z1 hl ⟨l, _, rfl, upd_same, reps_rg i⟩
    | cel => exact q1.useC z1 hl (reps_rg i)
  · simp only [if_neg hb] at q1; exact q1.elim
theorem rgT_sd {K mg} (ha : SE K mg W ta fa) : SE K mg W (tTupRg (tRg1 ta)) (zRgA .tup fa) := by
  intro fr m Hc env S σ H Q z zz q
  refine ha fr m Hc env S σ H _ z zz (q.bnd fun d S1 v m1 Hc1 H1 x1 z1 r1 q1 => ?_)
  cases d <;> first | exact q1.elim | skip
  rename_i i
  cases r1
  by_cases hb : i ≤ 1000000 ∧ -1000000 ≤ i
  · simp only [if_pos hb] at q1
    refine ⟨i, rfl, rg_ok hb, fun l hl => ?_⟩
    exact q1.useN z1 hl ⟨l, _, rfl, upd_same, reps_rg i⟩
  · simp only [if_neg hb] at q1; exact q1.elim
theorem ze_listRg {k : RgK} (hk : k ≠ .tup) (hc : X.calm = true) (hg : Gl X "list") (hm : X.mg "list" = none) (hg2 : Gl X "range") (hm2 : X.mg "range" = none) (ha : ZE X W a ta fa) (na2 : starEach [a] X.env = (false, eval a X.env) :: starEach [] X.env := by rfl)
    (na : starEach [.Call (.Name "range" p1) [a] [] pos1] X.env = (false, eval (.Call (.Name "range" p1) [a] [] pos1) X.env) :: starEach [] X.env := by rfl) : ZE X W (.Call (.Name "list" p) [.Call (.Name "range" p1) [a] [] pos1] [] pos) (tLstRg (tRg1 ta)) (zRgA k fa) :=
  ⟨pe_listRg hc hg hm (prg_1 hg2 hm2 ha.pe na2) na, rg_sd ha.sd hk⟩
theorem ze_tupRg (hc : X.calm = true) (hg : Gl X "tuple") (hm : X.mg "tuple" = none) (hg2 : Gl X "range") (hm2 : X.mg "range" = none) (ha : ZE X W a ta fa) (na2 : starEach [a] X.env = (false, eval a X.env) :: starEach [] X.env := by rfl)
    (na : starEach [.Call (.Name "range" p1) [a] [] pos1] X.env = (false, eval (.Call (.Name "range" p1) [a] [] pos1) X.env) :: starEach [] X.env := by rfl) : ZE X W (.Call (.Name "tuple" p) [.Call (.Name "range" p1) [a] [] pos1] [] pos) (tTupRg (tRg1 ta)) (zRgA .tup fa) :=
  ⟨pe_tupRg hc hg hm (prg_1 hg2 hm2 ha.pe na2) na, rgT_sd ha.sd⟩
end
theorem rgA_n {k : RgK} {fa : EM D} {env : En} {S S1 : Sto} {n : Nat} (h : fa env S = .ok (.int n) S1) (hn : n ≤ 1000000) : zRgA k fa env S = k.res ((List.range n).map fun i => .int (i : Nat)) S1 := by
  rw [zRgA, h, Rs.bnd_ok]
  simp only [show ((n : Int) ≤ 1000000 ∧ -1000000 ≤ (n : Int)) from ⟨by omega, by omega⟩, and_self, if_true]
  congr 1
  unfold rangeD
  rw [show ((n : Int) - 0).toNat = n by omega]
  refine List.map_congr_left fun j _ => ?_
  simp
end Z

namespace Z
open PySem L2
open PySem.Spec PyProof.Rows
variable [Tabs]
/-! ### enumerate of a tuple -/
/-- what enumerate makes of one argument -/
theorem en1_new {val : Value} {ob : Obj} {G : Heap → Prop} (B : Begins val ob G) :
    Meets (Builtin.«enumerate.__new__» ⟨[.type "enumerate", val], []⟩) (fun _ Rr sh => G sh.heap ∧ Rr (.ok (.ret (.ref (sh.heap.push ob).objs.size)))
      { sh with heap := (sh.heap.push ob).push { cls := .type "enumerate", data := .fields #[.none, .bool false, .ref sh.heap.objs.size, rawInt 0, .none, .none] } }) :=
  .of_wp fun prog w A Rr sh hh => by
    obtain ⟨hp, gs, dr, tk, os⟩ := sh
    obtain ⟨g1, hh⟩ := hh
    have subE := sub_enumerate
    have itr : ∀ {A2 : Around} {E2 : Value → Shared → Prop} {Q2 : Value → Shared → Prop}, Q2 (.ref hp.objs.size) ⟨hp.push ob, gs, dr, tk, os⟩ → wpAny (model prog w) A2 (pyIter val) Q2 E2 ⟨hp, gs, dr, tk, os⟩ :=
      fun q2 => B.iter prog w _ _ ⟨hp, gs, dr, tk, os⟩ _ g1 q2
    wp_walk using itr
    refine wpAny_stack_any fun stk => wpAny_pure ?_
    split
    · rename_i cl _ _ _ _ _
      cases (cl == Value.type "enumerate") <;> (wp_walk using itr; exact ⟨_, rfl, hh⟩)
    · (wp_walk using itr; exact ⟨_, rfl, hh⟩)
theorem en1_call {prog : Program} {w : World} {A : Around} {E : Value → Shared → Prop} {sh : Shared} {val : Value} {ob : Obj} {G : Heap → Prop} {Q : Value → Shared → Prop} (B : Begins val ob G) (g1 : G sh.heap)
    (k : ∀ h2, IsEnum h2 (sh.heap.objs.size + 1) sh.heap.objs.size 0 .none → h2.get? sh.heap.objs.size = some ob → h2.objs.size = sh.heap.objs.size + 2 → (∀ b o, sh.heap.get? b = some o → h2.get? b = some o) → Q (.ref (sh.heap.objs.size + 1)) { sh with heap := h2 }) :
    wpAny (model prog w) A (call (.type "enumerate") [val]) Q E sh := by
  refine callType_new F.called_enumerate (by decide) (F.typeCall_enumerate_1 _) (F.newCall_enumerate_1 _) (fun u => F.args_object_init_2 u _) F.entry_enumerate_new (en1_new B) ⟨g1, ?_⟩
  have sz : (sh.heap.push ob).objs.size = sh.heap.objs.size + 1 := Heap.size_push ..
  have at1 := Heap.get?_push_size (sh.heap.push ob) (o := { cls := .type "enumerate", data := .fields #[.none, .bool false, .ref sh.heap.objs.size, rawInt 0, .none, .none] }) rfl
  rw [sz] at at1
  show _ ∧ _
  rw [sz]
  exact ⟨⟨_, at1, rfl⟩, k _ at1 (Heap.get?_push_of_some _ (Heap.get?_push_size _ B.free)) (by rw [Heap.size_push, sz]) fun b o q => Heap.get?_push_of_some _ (Heap.get?_push_of_some _ q)⟩
theorem two_mem {x y z : Addr} : x ∈ [y, z] ↔ x = y ∨ x = z := by simp
/-- a tuple's items with their places, each pair a new tuple -/
def Iet (K : PySem.W.Frag) (ta : Addr) : It where
  go := fun k H => ∃ us u, SqT K H ta us ∧ us[k]? = some u
  yld := fun k H y H2 => ∃ np u, y = .ref np ∧ H np = none ∧ H2 = upd H np (.tup [.int (k : Nat), u]) ∧ ∀ us, SqT K H ta us → us[k]? = some u
  stop := fun k H => ∃ us : List V, SqT K H ta us ∧ us.length ≤ k
/-- what stands meanwhile -/
structure EnS (en cur ta : Addr) (k : Nat) (hp : Heap) : Prop where
  num : ∃ u, IsEnum hp en cur ((k : Nat) : Int) u
  at_ : hp.IsTupleIter cur ta k
  two : en ≠ cur
section
variable {en cur ta : Addr} {k : Nat} {hp hq : Heap}
theorem EnS.inE (st : EnS en cur ta k hp) : en < hp.objs.size := let ⟨_, q⟩ := st.num; Heap.lt_size q
theorem EnS.inC (st : EnS en cur ta k hp) : cur < hp.objs.size := let ⟨_, q, _⟩ := st.at_; Heap.lt_size q
theorem EnS.inB (st : EnS en cur ta k hp) {c : Addr} (m : c ∈ [en, cur]) : c < hp.objs.size := by
  rw [two_mem] at m
  exact m.elim (fun q => q ▸ st.inE) fun q => q ▸ st.inC
theorem EnS.stay (st : EnS en cur ta k hp) (kept : ∀ c ∈ [en, cur], ∀ o, hp.get? c = some o → hq.get? c = some o) : EnS en cur ta k hq :=
  ⟨st.num.imp fun _ q => kept en (two_mem.mpr (.inl rfl)) _ q, st.at_.at fun o q => kept cur (two_mem.mpr (.inr rfl)) o q, st.two⟩
theorem EnS.noCell (st : EnS en cur ta k hp) {c : Addr} (m : c ∈ [en, cur]) : ∃ o, hp.get? c = some o ∧ ∀ v, o.data ≠ .cell v := by
  rw [two_mem] at m
  rcases m with rfl | rfl
  · obtain ⟨_, q⟩ := st.num
    exact ⟨_, q, fun _ z => nomatch z⟩
  · obtain ⟨ob, q1, _, q3⟩ := st.at_
    exact ⟨ob, q1, fun _ z => by rw [q3] at z; cases z⟩
theorem EnS.apart {us : Array Value} (st : EnS en cur ta k hp) (T : hp.IsTuple ta us) : ta ≠ cur ∧ en ∉ [cur, ta] := by
  obtain ⟨ob, t1, t2, _⟩ := T
  obtain ⟨oc, c1, c2, _⟩ := st.at_
  obtain ⟨old, e1⟩ := st.num
  refine ⟨fun z => ?_, fun m => ?_⟩
  · rw [z, c1] at t1
    cases t1
    exact absurd (Value.type.inj (c2.symm.trans t2)) (by decide)
  · rw [two_mem] at m
    rcases m with z | z
    · exact st.two z
    · unfold IsEnum at e1
      rw [z, t1] at e1
      cases e1
      exact absurd (Value.type.inj t2) (by decide)
variable {P : Program} {w : World} {A : Around} {X0 : Value → Shared → Prop} {sh : Shared} {us : Array Value}
/-- the next pair -/
theorem EnS.pull {val : Value} {G : Option Value → Shared → Prop} (hh : A.in1.handled = none) (st : EnS en cur ta k sh.heap) (T : sh.heap.IsTuple ta us) (hv : us[k]? = some val)
    (fin : ∀ hn tk, IsEnumOut hn en cur ((k : Int) + 1) val sh.heap.objs.size → hn.IsTupleIter cur ta (k + 1) → hn.get? sh.heap.objs.size = some { cls := .type "tuple", data := .seq #[.int k tk, val] } →
      (∀ c o, c ≠ en → c ≠ cur → sh.heap.get? c = some o → hn.get? c = some o) → G (some (.ref sh.heap.objs.size)) { sh with heap := hn, toks := tk + 1 }) : wpAny (model P w) A (pyNext (.ref en)) G X0 sh := by
  obtain ⟨a1, a2⟩ := st.apart T
  obtain ⟨old, q⟩ := st.num
  have lt : k < us.size := (Array.getElem?_eq_some_iff.mp hv).1
  refine wpAny_pyNext_enum_itemD (Draws.tuple (prog := P) (w := w) hh cur ta a1 us) q ⟨st.at_, T⟩ lt st.two a2 fun y hn tk hy f1 f2 f3 _ f5 => ?_
  obtain rfl : y = val := Option.some.inj (hy.symm.trans hv)
  exact fin hn tk f1 f2.1 f3 f5
/-- behind the last one -/
theorem EnS.over {G : Option Value → Shared → Prop} (hh : A.in1.handled = none) (st : EnS en cur ta k sh.heap) (T : sh.heap.IsTuple ta us) (hv : us[k]? = none) (fin : ∀ hn, Heap.ExtBut cur sh.heap hn → G none { sh with heap := hn }) : wpAny (model P w) A (pyNext (.ref en)) G X0 sh := by
  obtain ⟨old, q⟩ := st.num
  have none_left : Draws P w A.in1 cur [cur, ta] k (fun _ _ => False) (fun j hz => j = k ∧ hz.IsTupleIter cur ta j ∧ hz.IsTuple ta us) := {
    live := fun _ _ z => z.2.1.imp fun _ z => z.1
    frame := fun _ _ _ z kept => ⟨z.1, z.2.1.at fun o m => kept cur (two_mem.mpr (.inl rfl)) o m, z.2.2.at fun o m => kept ta (two_mem.mpr (.inr rfl)) o m⟩
    item := fun j _ _ _ lt z _ => absurd z.1 (Nat.ne_of_lt lt)
    done := fun _ _ _ z go => wpAny_nextOf_tuple_end hh z.2.1 z.2.2 hv go }
  exact wpAny_pyNext_enum_endD none_left q ⟨rfl, st.at_, T⟩ fin
end
theorem turn_enT {P : Program} {w : World} {K : PySem.W.Frag} {elts : List Expr} {kk : Nat} {tpos : Pos} (ta en cur : Addr) : Turn P w K (.Tuple elts kk tpos) (Iet K ta) [en, cur] en (EnS en cur ta) where
  mem := two_mem.mpr (.inl rfl)
  obj := fun _ _ st _ m => st.noCell m
  keep := fun _ _ _ st kept => st.stay kept
  item := by
    rintro Y rfl rfl rfl calm k pins sh σ H E I free st ⟨us, u, hus, hu⟩
    obtain ⟨vals, rel, T, hz⟩ := I.tuple hus
    obtain ⟨val, hval, ru⟩ := rel.get hu
    refine st.pull (us := vals.toArray) (val := val) (I.ok.hd calm) T (by rw [List.getElem?_toArray]; exact hval) fun hn tk f1 f2 f3 f5 => ?_
    refine ⟨_, rfl, wpAny_letOwnedTupleGo_enum (s := { sh with heap := hn, toks := tk + 1 }) f1 fun hm f6 f7 => ?_⟩
    have pair : ObjOk Y.prog Y.w (upd H sh.heap.objs.size (.tup [.int (k : Nat), u])) hm sh.heap.objs.size (.tup [.int (k : Nat), u]) :=
      ⟨by show 2 ≤ sizeLine; decide, [.int k tk, val], .cons ⟨_, rfl⟩ (.cons ru .nil), ⟨_, (f7.2 _ (Nat.ne_of_gt st.inE)).trans f3, rfl, _, rfl⟩⟩
    have I2 : Inv Y pins σ (upd H sh.heap.objs.size (.tup [.int (k : Nat), u])) { sh with heap := hm, toks := tk + 1 } := by
      refine I.turnedNew (ch := [en, cur]) (fun c o hc q => ?_) free (Nat.le_refl _) pair
      have hc1 : c ≠ en := fun z => hc (two_mem.mpr (.inl z))
      have hc2 : c ≠ cur := fun z => hc (two_mem.mpr (.inr z))
      exact (f7.2 c hc1).trans (f5 c o hc1 hc2 q)
    refine ⟨.ref sh.heap.objs.size, _, I2, rfl, ⟨_, u, rfl, I.hok.fresh (Nat.le_refl _), rfl, fun vs hvs => I.tuple_inj hvs hus ▸ hu⟩, ⟨⟨val, ?_⟩, f2.at fun o q => (f7.2 cur (Ne.symm st.two)).trans q, st.two⟩, fun c m => ?_⟩
    · rw [show ((k + 1 : Nat) : Int) = (k : Int) + 1 from rfl]
      exact f6
    · rw [upd_ne (Nat.ne_of_lt (st.inB m))]
      exact (free c m).1
  done := by
    rintro Y rfl rfl rfl calm k pins sh σ H E I free st ⟨us, hus, hle⟩
    obtain ⟨vals, rel, T, hz⟩ := I.tuple hus
    have nothing : vals.toArray[k]? = none := by
      rw [List.getElem?_toArray, List.getElem?_eq_none_iff, ← rel.length]
      exact hle
    obtain ⟨g0, g1, g2, g3, g4, g5⟩ := free cur (two_mem.mpr (.inr rfl))
    exact st.over (I.ok.hd calm) T nothing fun hn eb => ⟨rfl, I.turned (t' := sh.toks) (fun c o hc q => eb c o hc q) g0 g1 g3 g4 g5⟩
  self := fun _ _ _ _ _ st go => let ⟨_, q⟩ := st.num; wpAny_pyIter_enum q go
def iEnT (K : PySem.W.Frag) (arg : TA) : TI := fun σ H R => arg σ H fun vs H1 => ∃ ta us, vs = [.ref ta] ∧ SqT K H1 ta us ∧ R (Iet K ta) H1
theorem pi_enT {X : Cx} {arg : Expr} {targ : TA} {p pos tpos : Pos} {elts : List Expr} {kk : Nat} (hg : Gl X "enumerate") (hm : X.mg "enumerate" = none) (ha : PA X [arg] targ) (hs : starEach [arg] X.env = [(false, eval arg X.env)] := by rfl) :
    PI X (.Tuple elts kk tpos) (.Call (.Name "enumerate" p) [arg] [] pos) (iEnT X.K targ) := by
  constructor
  intro pins sh σ H R I given
  have args := ha.run pos pins sh σ H _ I given
  refine Call_ (ld_blt I hg hm boot_enumerate (PyProof.Rows.callWith_type1 (thn args ?_) hs rfl))
  rintro vals sh1 ⟨_, H1, I1, rel, ta, us, rfl, hus, more⟩
  obtain ⟨v1, rfl, r1⟩ : ∃ v1, vals = [v1] ∧ RelV (.ref ta) v1 := by
    cases rel with
    | cons r1 rr => cases rr; exact ⟨_, rfl, r1⟩
  cases r1
  obtain ⟨its, _, T, _⟩ := I1.tuple hus
  refine en1_call (begins_tuple ta its.toArray) T fun hn n1 n2 _ n4 => wpAny_pyIter_enum n1 ?_
  have I2 := I1.kept (t' := sh1.toks) n4
  refine ⟨sh1.heap.objs.size + 1, [sh1.heap.objs.size + 1, sh1.heap.objs.size], _, _, H1, rfl, I2, turn_enT ta (sh1.heap.objs.size + 1) sh1.heap.objs.size, ⟨⟨.none, n1⟩, ⟨_, n2, rfl, rfl⟩, Nat.succ_ne_self _⟩, fun c m => ?_, more⟩
  have low : sh1.heap.objs.size ≤ c := by
    exact (two_mem.mp m).elim (fun z => z ▸ Nat.le_succ _) fun z => Nat.le_of_eq z.symm
  exact I1.fpOk low (I1.hok.fresh low)
theorem ito_enT {K : PySem.W.Frag} {m : List Addr} {Hc : Hp} {ta : Addr} {us : List V} {es : List D} (q : SqT K Hc ta us) (rr : Reps K Hc m es us) : ItO K m Hc (Iet K ta) ⟨es.zipIdx.map fun p => D.tup [.int (p.2 : Nat), p.1], none⟩ := by
  intro fr m1 Hc1 S1 H1 k x z g
  have now := Same.tupT z.sub (Same.tupT x.sub q)
  have reps := Reps.mono x _ _ rr
  refine ⟨fun d hd => ?_, fun hl => ⟨us, now, by rw [rr.length]; simpa using hl⟩⟩
  rw [List.getElem?_map, List.getElem?_zipIdx] at hd
  cases hk : es[k]? with
  | none => rw [hk] at hd; cases hd
  | some d0 =>
    rw [hk] at hd
    obtain rfl : D.tup [.int (k : Nat), d0] = d := by simpa using hd
    obtain ⟨v, hv, rv⟩ := reps.get hk
    refine ⟨⟨us, v, now, hv⟩, ?_⟩
    rintro y H2 ⟨np, u, rfl, hnp, rfl, all⟩
    obtain rfl : u = v := Option.some.inj ((all us now).symm.trans hv)
    obtain ⟨z2, x2⟩ := z.new (o := .tup [.int (k : Nat), u]) hnp
    exact ⟨m1, _, x2, z2, np, _, rfl, upd_same, _, _, rfl, rfl, _, _, rfl, Rep.mono x2 _ _ rv, rfl⟩
/-- enumerate of a list or of a tuple -/
def isTupl : D → Bool
  | .tup _ => true
  | .rot _ => true
  | _ => false
def zEnumB (a : EM (List D)) : EI := fun env S => (a env S).bnd fun xs S1 => match xs with
  | [.tup ds] => .ok ⟨ds.zipIdx.map fun p => D.tup [.int (p.2 : Nat), p.1], none⟩ S1
  | [.rot ds] => .ok ⟨ds.zipIdx.map fun p => D.tup [.int (p.2 : Nat), p.1], none⟩ S1
  | _ => zEnum (fun _ S => .ok xs S) env S1
theorem kzi_enumB {X : Cx} {K : PySem.W.Frag} {W : WX} {e : Expr} {p pos tpos : Pos} {elts : List Expr} {kk : Nat} {ta : TA} {fa : EM (List D)} (hK : X.K = K) (hg : Gl X "enumerate") (hm : X.mg "enumerate" = none) (ha : ZA X W [e] ta fa) (hs : starEach [e] X.env = [(false, eval e X.env)] := by rfl) : ZI X W (.Tuple elts kk tpos) (.Call (.Name "enumerate" p) [e] [] pos) (fun σ H R => iEnum K ta σ H R ∨ iEnT K ta σ H R) (zEnumB fa) := by
  subst hK
  refine ⟨PI.alt (pi_enum hg hm ha.pa hs) (pi_enT hg hm ha.pa hs), ?_⟩
  intro fr m Hc env S σ H R z zz q
  by_cases hk : ∃ d S1, fa env S = .ok [d] S1 ∧ isTupl d = true
  · obtain ⟨d, S0, h0, ht⟩ := hk
    refine .inr (ha.sd fr m Hc env S σ H _ z zz (q.bndE fun xs S1 vs m1 Hc1 H1 e1 x1 z1 r1 q1 => ?_))
    rw [h0] at e1
    cases e1
    obtain ⟨v, rfl, rv⟩ := r1.one_of
    cases d <;> first | (cases ht; done) | skip
    · obtain ⟨a, us, rfl, hq, rr⟩ := rv
      exact ⟨a, us, rfl, .of (z1.sub _ _ hq), q1.use z1 (ito_enT (.of hq) rr)⟩
    · obtain ⟨a, us, rfl, hq, rr⟩ := rv
      exact ⟨a, us, rfl, Same.tupT z1.sub hq, q1.use z1 (ito_enT hq rr)⟩
  · refine .inl ?_
    have e0 : zEnumB fa env S = zEnum fa env S := by
      unfold zEnumB zEnum
      cases h : fa env S with
      | exc e S1 => rfl
      | stk => rfl
      | ok xs S1 =>
        rw [Rs.bnd_ok, Rs.bnd_ok]
        match xs, h with
        | [], _ => rfl
        | [d], h =>
          have ht : isTupl d = false := by
            cases q : isTupl d with
            | false => rfl
            | true => exact (hk ⟨d, S1, h, q⟩).elim
          cases d <;> first | (cases ht; done) | rfl
        | d :: _ :: _, _ => cases d <;> rfl
    rw [e0] at q
    exact (zi_enum (X := X) (W := W) (p := p) (pos := pos) (tpos := tpos) (elts := elts) (kk := kk) hg hm ha hs).sd fr m Hc env S σ H R z zz q
end Z

namespace Z
open PySem L2
open PySem.Spec PyProof.Rows
variable [Tabs]
/-! ### defs with keyword-only parameters that have values of their own -/
/-- a def's promise: dd, dvs the values that a call with places alone fills up -/
structure FZd (P : Program) (w : World) (K : PySem.W.Frag) (mg : Mg) (base : Heap) (k : Nat) (x : Str) (st : Stmt) (ps : List Str) (dd : List D) (dvs : List V) (F : List D → Sto → Rs D) : Prop where
  ex : ∃ (f : Addr) (fd : FuncData) (ds : List Value), mg x = some (.ref f) ∧ Fun K x x st f fd ∧ Vals dvs ds ∧ (∀ Hc m, Reps K Hc m dd dvs) ∧ Binds K fd ps ds ∧ FnOk P w K mg base (L2.CX P w) k f fd ps (zSp K mg ps.length F)
theorem FZd.mono {P w K mg base} {j k : Nat} {x : Str} {st : Stmt} {ps : List Str} {dd : List D} {dvs : List V} {F : List D → Sto → Rs D} (h : FZd P w K mg base j x st ps dd dvs F) (hl : j ≤ k) : FZd P w K mg base k x st ps dd dvs F := by
  obtain ⟨fa, fd, ds, gm, hF, hv, hr, hb, ok⟩ := h.ex
  exact ⟨fa, fd, ds, gm, hF, hv, hr, hb, ok.mono hl⟩
/-- the promise without the way it is called -/
structure FZ0 (P : Program) (w : World) (K : PySem.W.Frag) (mg : Mg) (base : Heap) (k : Nat) (x : Str) (st : Stmt) (ps : List Str) (f : Addr) (fd : FuncData) (F : List D → Sto → Rs D) : Prop where
  ok : FnOk P w K mg base (L2.CX P w) k f fd ps (zSp K mg ps.length F)
section
variable {P : Program} {w : World} {K : PySem.W.Frag} {mg : Mg} {base : Heap}
theorem fz_body {x : Str} {st : Stmt} {f : Addr} {fd : FuncData} {N ps : List Str} {k : Nat} {F : List D → Sto → Rs D} {run : SM} (fu : Nat) (hF : Fun K x x st f fd) (S : FnScope N ps (defScope st))
    (body : ∀ (cdv : Value) (A : Around) (outer : List Env) (s : Shared) (H : Hp) (E : XK), Room k (A.deeper (envOfC x (defScope st) s.heap.objs.size f cdv)) →
      ∃ t, ZSs (cxOf (L2.CX P w) P w K mg base N x (defScope st) f cdv A outer s H E) (fun cls d _ H => E cls d H) (defBody st) t run)
    (impl : ∀ ds S0, ds.length = ps.length → Impl fu S0 (run (startE N ds) S0) (F ds S0)) : FnOk P w K mg base (L2.CX P w) (k + 1) f fd ps (zSp K mg ps.length F) := by
  refine hF.okX S (fun vs H Q E h => h.1) fun cdv A outer s H vs Q E hr hsp => ?_
  obtain ⟨hl, fr, m, Hc, S0, ds, z, r, p⟩ := hsp
  obtain ⟨t, zs⟩ := body cdv A outer s H E hr
  refine ⟨t, zs.ps, ?_⟩
  have im := impl ds S0 (by rw [← r.length]; exact hl)
  refine zs.sd fr m Hc (startE N ds) S0 (L2.start N vs) H _ z (ze_start r) ?_
  cases h : F ds S0 with
  | stk => rw [h] at p; exact p.elim
  | ok d' S' =>
    rw [h] at p im
    rcases im with ⟨d, S1, e, fi⟩ | ⟨env, S1, e, fi⟩
    · show PstS _ _ _ _ _ _ _ (run (startE N ds) S0)
      rw [e]
      intro v m1 Hc1 H1 x1 z1 r1
      obtain ⟨m2, Hc2, x2, z2, r2⟩ := fin_ok z x1 z1 r1 fi
      exact p v m2 Hc2 H1 x2 z2 r2
    · show PstS _ _ _ _ _ _ _ (run (startE N ds) S0)
      rw [e]
      intro σ1 m1 Hc1 H1 x1 z1 _
      obtain ⟨m2, Hc2, x2, z2, r2⟩ := fin_ok (d := .non) (v := .non) z x1 z1 rfl fi
      exact p .non m2 Hc2 H1 x2 z2 r2
  | exc e S' =>
    rw [h] at p im
    obtain ⟨env, S1, e1, fi⟩ := im
    show PstS _ _ _ _ _ _ _ (run (startE N ds) S0)
    rw [e1]
    intro σ' cls od m1 Hc1 H1 x1 z1 _ r1
    obtain ⟨m2, Hc2, x2, z2, r2⟩ := finX_ok z x1 z1 r1 fi
    exact p cls od m2 Hc2 H1 x2 z2 r2
theorem fz_ofd {x : Str} {st : Stmt} {f : Addr} {fd : FuncData} {N ps : List Str} {k : Nat} {F : List D → Sto → Rs D} {run : SM} {dd : List D} {dvs : List V} {ds : List Value} (fu : Nat) (gm : mg x = some (.ref f)) (hF : Fun K x x st f fd) (S : FnScope N ps (defScope st)) (hv : Vals dvs ds) (hr : ∀ Hc m, Reps K Hc m dd dvs) (hb : Binds K fd ps ds)
    (body : ∀ (cdv : Value) (A : Around) (outer : List Env) (s : Shared) (H : Hp) (E : XK), Room k (A.deeper (envOfC x (defScope st) s.heap.objs.size f cdv)) →
      ∃ t, ZSs (cxOf (L2.CX P w) P w K mg base N x (defScope st) f cdv A outer s H E) (fun cls d _ H => E cls d H) (defBody st) t run)
    (impl : ∀ ds S0, ds.length = ps.length → Impl fu S0 (run (startE N ds) S0) (F ds S0)) : FZd P w K mg base (k + 1) x st ps dd dvs F :=
  ⟨f, fd, ds, gm, hF, hv, hr, hb, fz_body fu hF S body impl⟩
end
def zFill (dd : List D) (f : EM (List D)) : EM (List D) := fun env S => (f env S).bnd fun xs S1 => .ok (xs ++ dd) S1
section
variable {X : Cx} {K : PySem.W.Frag} {mg : Mg} {W : WX} {pos p : Pos} {x : Str} {e : Expr} {es : List Expr} {kws : List Keyword} {t tkk : TA} {f fk : EM (List D)} {dd : List D} {dvs : List V} {n k : Nat} {st : Stmt} {ps : List Str} {F : List D → Sto → Rs D}
/-- places alone: the values of its own fill up -/
theorem kze_callD (hn : ps.length = n) (hK : X.K = K) (hM : X.mg = mg) (h : FZd X.prog X.w X.K X.mg X.base k x st ps dd dvs F) (hr : Room k X.A) (hg : Gl X x) (tk : Takes X W) (ha : ZA X W (e :: es) t f) (hdb : (x == ("__debug__" : Str)) = false := by decide) (he : starEach (e :: es) X.env = (false, eval e X.env) :: starEach es X.env := by rfl)
    (hpl : (backTo pos (starEach es X.env)).any (·.1) = false := by rfl) :
    ZE X W (.Call (.Name x p) (e :: es) [] pos) (tCallSD (zSp K mg n F) dvs (WE W) t) (zCallF n F (zFill dd f)) := by
  subst hK hM hn
  obtain ⟨fa, fd, ds, gm, hF, hv, hrp, hb, ok⟩ := h.ex
  refine ⟨pe_callSD ok hr hg gm hF.kp hb hv (fun σ => passAt tk σ) ha.pa hdb he hpl, ?_⟩
  intro fr m Hc env S σ H Q z zz q
  have q : Pst X.K X.mg fr (fun Hc m d v => Rep X.K Hc m d v) m Hc (fun c o H => W c o σ H) Q ((f env S).bnd fun xs S1 => if (xs ++ dd).length = ps.length then F (xs ++ dd) S1 else .stk) := by
    have e1 : zCallF ps.length F (zFill dd f) env S = ((f env S).bnd fun xs S1 => if (xs ++ dd).length = ps.length then F (xs ++ dd) S1 else .stk) := by
      unfold zCallF zFill
      cases f env S <;> rfl
    rw [← e1]; exact q
  refine ha.sd fr m Hc env S σ H _ z zz (q.bnd fun xs S1 vs m1 Hc1 H1 x1 z1 r1 q1 => ?_)
  have rr : Reps X.K Hc1 m1 (xs ++ dd) (vs ++ dvs) := r1.append (hrp _ _)
  by_cases hl : (xs ++ dd).length = ps.length
  · rw [if_pos hl] at q1
    exact ⟨by rw [rr.length]; exact hl, fr, m1, Hc1, S1, _, z1, rr, q1⟩
  · rw [if_neg hl] at q1; exact q1.elim
/-- what a call with keywords needs of a def -/
theorem FZd.bare (h : FZd X.prog X.w X.K X.mg X.base k x st ps dd dvs F) : ∃ fa fd, X.mg x = some (.ref fa) ∧ Fun X.K x x st fa fd ∧ FnOk X.prog X.w X.K X.mg X.base (L2.CX X.prog X.w) k fa fd ps (zSp X.K X.mg ps.length F) :=
  let ⟨fa, fd, _, gm, hF, _, _, _, ok⟩ := h.ex
  ⟨fa, fd, gm, hF, ok⟩
theorem kze_callDK {pm : List Nat} {ks : List Str} (hn : ps.length = n) (hK : X.K = K) (hM : X.mg = mg) (h : FZd X.prog X.w X.K X.mg X.base k x st ps dd dvs F) (hr : Room k X.A) (hg : Gl X x) (tk : Takes X W)
    (hb : ∀ (kV doc pmv : Value) (an : Option Addr) (cdv ct : Value) (us ws : List Value), us.length = (e :: es).length → ws.length = ks.length → bindArgs (PySem.W.fnOf x x (defArgs st) (defBody st) (defScope st) .none kV doc pmv an cdv ct) ⟨us, ks.zip ws⟩ = pure (ps.zip (permL pm (us ++ ws))))
    (ha : ZA X W (e :: es) t f) (hkw : ZK X W kws tkk fk) (hkl : kws.length = ks.length := by rfl)
    (hall : (backToKw pos (keywordEach kws X.env)).all (·.1.isSome) = true := by rfl) (hks : (backToKw pos (keywordEach kws X.env)).filterMap (·.1) = ks := by rfl)
    (hdb : (x == ("__debug__" : Str)) = false := by decide)
    (he : starEach (e :: es) X.env = (false, eval e X.env) :: starEach es X.env := by rfl)
    (hpl : ((backTo pos (starEach (e :: es) X.env)).any (·.1) ||
      (backToKw pos (keywordEach kws X.env)).any (·.1.isNone)) = false := by rfl) :
    ZE X W (.Call (.Name x p) (e :: es) kws pos) (tCallKZ (e :: es).length ks.length pm (zSp K mg n F) (WE W) t tkk) (zCallK n F pm f fk) := by
  subst hK hM hn
  obtain ⟨fa, fd, gm, hF, ok⟩ := h.bare
  refine ⟨pe_callKZ ok hr hg gm hF.kp (fun_to (e :: es).length ks pm hF hb) (fun σ => passAt tk σ) ha.pa hkw.pk hall hks hdb he hpl, fun fr m Hc env S σ H Q z zz q => ?_⟩
  refine ha.sd fr m Hc env S σ H _ z zz (q.bndE fun xs S1 vs m1 Hc1 H1 e1 x1 z1 r1 q1 => ?_)
  refine hkw.sd fr m1 Hc1 env S1 σ H1 _ z1 (Ze.mono x1 zz) (q1.bndE fun ys S2 ws m2 Hc2 H2 e2 x2 z2 r2 q2 => ?_)
  have rr := permL_reps pm ((Reps.mono x2 _ _ r1).append r2)
  refine ⟨by rw [r1.length]; exact ha.ar _ _ _ _ e1, by rw [r2.length, ← hkl]; exact hkw.ar _ _ _ _ e2, ?_⟩
  by_cases hl : (permL pm (xs ++ ys)).length = ps.length
  · rw [if_pos hl] at q2
    exact ⟨by rw [rr.length]; exact hl, fr, m2, Hc2, S2, _, z2, rr, q2⟩
  · rw [if_neg hl] at q2; exact q2.elim
theorem kze_callDK0 {pm : List Nat} {ks : List Str} (hn : ps.length = n) (hK : X.K = K) (hM : X.mg = mg) (h : FZd X.prog X.w X.K X.mg X.base k x st ps dd dvs F) (hr : Room k X.A) (hg : Gl X x) (tk : Takes X W)
    (hb : ∀ (kV doc pmv : Value) (an : Option Addr) (cdv ct : Value) (us ws : List Value), us.length = 0 → ws.length = ks.length → bindArgs (PySem.W.fnOf x x (defArgs st) (defBody st) (defScope st) .none kV doc pmv an cdv ct) ⟨us, ks.zip ws⟩ = pure (ps.zip (permL pm (us ++ ws))))
    (hkw : ZK X W kws tkk fk) (hkl : kws.length = ks.length := by rfl)
    (hall : (backToKw pos (keywordEach kws X.env)).all (·.1.isSome) = true := by rfl) (hks : (backToKw pos (keywordEach kws X.env)).filterMap (·.1) = ks := by rfl)
    (hdb : (x == ("__debug__" : Str)) = false := by decide) (hpl : ((backTo pos (starEach [] X.env)).any (·.1) || (backToKw pos (keywordEach kws X.env)).any (·.1.isNone)) = false := by rfl) :
    ZE X W (.Call (.Name x p) [] kws pos) (tCallKZ 0 ks.length pm (zSp K mg n F) (WE W) tNil tkk) (zCallK n F pm zNil fk) := by
  subst hK hM hn
  obtain ⟨fa, fd, gm, hF, ok⟩ := h.bare
  refine ⟨pe_callKZ0 ok hr hg gm hF.kp (fun_to 0 ks pm hF hb) (fun σ => passAt tk σ) hkw.pk hall hks hdb hpl, fun fr m Hc env S σ H Q z zz q => ?_⟩
  show tCallKZ 0 ks.length pm (zSp X.K X.mg ps.length F) (WE W) tNil tkk σ H Q
  have q : Pst X.K X.mg fr (fun Hc m d v => Rep X.K Hc m d v) m Hc (fun c o H => W c o σ H) Q ((fk env S).bnd fun ys S2 => if (permL pm ([] ++ ys)).length = ps.length then F (permL pm ([] ++ ys)) S2 else .stk) := q
  refine hkw.sd fr m Hc env S σ H _ z zz (q.bndE fun ys S2 ws m2 Hc2 H2 e2 x2 z2 r2 q2 => ?_)
  have rr := permL_reps pm r2
  refine ⟨rfl, by rw [r2.length, ← hkl]; exact hkw.ar _ _ _ _ e2, ?_⟩
  rw [List.nil_append] at q2
  by_cases hl : (permL pm ys).length = ps.length
  · rw [if_pos hl] at q2
    exact ⟨by rw [List.nil_append, rr.length]; exact hl, fr, m2, Hc2, S2, _, z2, rr, q2⟩
  · rw [if_neg hl] at q2; exact q2.elim
end
/-- in the module: one keyword-only parameter, a text of its own -/
theorem kw_one {K : PySem.W.Frag} {x : Str} {st : Stmt} {f D0 : Addr} {oc : Value} {od : Option Addr} {doc pm cdv ct : Value} {an : Option Addr} {osl : Array (Option Value)} {ps : List Str} {key txt : Str} {tk : Tok} (n : Nat)
    (lk : K.lookup f = some ⟨oc, od, .func (PySem.W.fnOf x x (defArgs st) (defBody st) (defScope st) .none (.ref D0) doc pm an cdv ct), osl⟩) (hc : PySem.W.codeIn K cdv x = true) (kp : PySem.W.keepIn K (.ref f) = true) (hd : PySem.W.nsIn K D0 key = some (some (.str txt tk))) (hn : n + 1 = ps.length)
    (chain : ∀ (D : Addr) (doc pm : Value) (an : Option Addr) (cdv ct : Value) (us ks : List Value), us.length = n → ks.length = 1 → KwChain D ([key].zip ks) (bindArgs (PySem.W.fnOf x x (defArgs st) (defBody st) (defScope st) .none (.ref D) doc pm an cdv ct) ⟨us, []⟩) (ps.zip (us ++ ks))) :
    ∃ ds, Vals [V.str txt] ds ∧ Binds K (PySem.W.fnOf x x (defArgs st) (defBody st) (defScope st) .none (.ref D0) doc pm an cdv ct) ps ds := by
  have fd : FunD K x x (defArgs st) (defBody st) (defScope st) [] [(key, V.str txt)] f (PySem.W.fnOf x x (defArgs st) (defBody st) (defScope st) .none (.ref D0) doc pm an cdv ct) := by
    refine ⟨⟨oc, od, .none, .ref D0, doc, pm, an, cdv, ct, osl, rfl, lk, hc, .inl ⟨rfl, rfl⟩, .inr ⟨D0, rfl, fun q hq => ?_⟩⟩, kp⟩
    rw [List.mem_singleton.mp hq]
    exact ⟨_, hd, tk, rfl⟩
  exact fd.binds0 n (by simp) hn chain
end Z

namespace Z
open PySem L2
open PySem.Spec PyProof.Rows
variable [Tabs]
/-! ### a list from behind -/
theorem Reps.turned {K : PySem.W.Frag} {Hc : Hp} {m : List Addr} : ∀ {ds : List D} {vs : List V}, Reps K Hc m ds vs → Reps K Hc m ds.reverse vs.reverse
  | [], _, h => by cases h; rfl
  | d :: ds, _, ⟨v, r, e, h1, h2⟩ => by
    subst e
    simp only [List.reverse_cons]
    exact (Reps.turned h2).append (Reps.one h1)
def zBack (a : EM D) : EM D := fun env S => (a env S).bnd fun x S1 => match seqOf x S1 with
  | some ds => .ok (.lst ds.reverse) S1
  | none => .stk
theorem kze_back {X : Cx} {K : PySem.W.Frag} {W : WX} {e : Expr} {te : TE} {fe : EM D} {k : Nat} {p1 p2 p3 pos : Pos} (hK : X.K = K) (he : ZE X W e te fe) : ZE X W (.Subscript e (.Slice none none (some (.UnaryOp .USub (.Constant (.int 1) k p1) p2)) p3) pos) (tRevL K te) (zBack fe) := by
  subst hK
  refine ⟨pe_revL he.pe, fun fr m Hc env S σ H Q z zz q => ?_⟩
  refine he.sd fr m Hc env S σ H _ z zz (q.bnd fun x S1 v m1 Hc1 H1 x1 z1 r1 q1 => ?_)
  cases h : seqOf x S1 with
  | none => simp only [h] at q1; exact q1.elim
  | some ds =>
    simp only [h] at q1
    obtain ⟨a, vs, rfl, hq, rr⟩ := z1.seq r1 h
    exact ⟨a, vs, rfl, hq, fun l hl => q1.useN z1 hl ⟨l, _, rfl, upd_same, Reps.mono (z1.new hl).2 _ _ rr.turned⟩⟩
end Z

/-! Z23: try, except C as e: the error that the suite holds stands in no slot of the deep locals; its class and fields are the suite's own argument. -/
namespace Z
open PySem L2
open PySem.Spec PyProof.Rows
variable [Tabs]
section
variable {K : PySem.W.Frag} {mg : Mg} {Hc Hc' H H' : Hp} {m m' : List Addr} {x : XV} {cls : Value} {od : Option Addr} {a : Addr} {i : Nat} {env : En} {σ : L2.St}
theorem RepF.mono (e : Ex m Hc m' Hc') : ∀ {ds : List (Str × D)} {vs : List (Str × V)}, RepF K Hc m ds vs → RepF K Hc' m' ds vs
  | [], _, h => h
  | (n, d) :: ds, _, ⟨v, r, q, h1, h2⟩ => ⟨v, r, q, Rep.mono e d v h1, RepF.mono e h2⟩
theorem RepF.look {n : Str} {d : D} : ∀ {ds : List (Str × D)} {vs : List (Str × V)}, RepF K Hc m ds vs → ds.lookup n = some d → ∃ v, vs.lookup n = some v ∧ Rep K Hc m d v
  | [], _, _, e => by cases e
  | (j, d0) :: ds, _, ⟨v, r, q, h1, h2⟩, e => by
    subst q
    rw [List.lookup_cons] at e ⊢
    cases hj : n == j with
    | true => rw [hj] at e; cases e; exact ⟨v, rfl, h1⟩
    | false => rw [hj] at e; exact RepF.look h2 e
theorem RepX.mono (e : Ex m Hc m' Hc') (h : RepX K mg Hc m x cls od H) : RepX K mg Hc' m' x cls od H' := by
  obtain ⟨Ca, g1, g2, g3⟩ := h
  refine ⟨Ca, g1, g2, ?_⟩
  cases hf : x.fs with
  | none => rw [hf] at g3; exact g3
  | some fs =>
    rw [hf] at g3
    obtain ⟨d, vfs, e1, e2, e3⟩ := g3
    exact ⟨d, vfs, e1, e.sub _ _ e2, e3.mono e⟩
/-- slot i holds the error at a -/
@[reducible] def hotX (K : PySem.W.Frag) (mg : Mg) (i : Nat) (a : Addr) (x : XV) (cls : Value) (od : Option Addr) : Hot where
  ok Hc m σ := (σ : List (Option V))[i]? = some (some (.ref a)) ∧ RepX K mg Hc m x cls od Hc
  free j := j ≠ i
  mono e h := ⟨h.1, RepX.mono e h.2⟩
  put hj h := ⟨by rw [List.getElem?_set_ne hj]; exact h.1, h.2⟩
theorem ze_enter (z : Ze K Hc m env σ) (hi : i < env.length) (r : RepX K mg Hc m x cls od H) : @Ze (hotX K mg i a x cls od) K Hc m (env.set i none) (σ.set i (some (.ref a))) := by
  refine @Ze.mk (hotX K mg i a x cls od) K Hc m _ _ (by simp [z.len]) (fun j d h => ?_) ⟨by rw [List.getElem?_set_self (by rw [← z.len]; exact hi)], RepX.mono (Ex.refl _ _) r⟩
  by_cases hj : i = j
  · subst hj
    rw [List.getElem?_set_self hi] at h
    cases h
  · rw [List.getElem?_set_ne hj] at h
    obtain ⟨w, h1, h2⟩ := z.at_ j d h
    exact ⟨w, by rw [List.getElem?_set_ne hj]; exact h1, h2⟩
theorem ze_leave (z : @Ze (hotX K mg i a x cls od) K Hc m env σ) : Ze K Hc m (env.set i none) (σ.set i none) := by
  have y : Ze K Hc m env σ := ⟨@Ze.len (hotX K mg i a x cls od) _ _ _ _ _ z, @Ze.at_ (hotX K mg i a x cls od) _ _ _ _ _ z, trivial⟩
  exact y.unset i
end
def unhot (i : Nat) : Ss → Ss
  | .mk (.next env) S => .mk (.next (env.set i none)) S
  | .mk (.brk env) S => .mk (.brk (env.set i none)) S
  | .mk (.cnt env) S => .mk (.cnt (env.set i none)) S
  | .mk (.ret d) S => .mk (.ret d) S
  | .mk (.exc _ _) _ => .stk
  | .stk => .stk
def zTryAs (i : Nat) (cat : List (Str × Bool)) (fb : SM) (fh : XV → SM) : SM := fun env S => match fb env S with
  | .mk (.exc x env1) S1 => if i < env1.length then match cat.lookup x.nm with
      | some true => unhot i (fh x (env1.set i none) S1)
      | some false => .mk (.exc x env1) S1
      | none => .stk
    else .stk
  | r => r
section
variable {K : PySem.W.Frag} {mg : Mg} {Wout : WX} {i : Nat} {c : Value} {cat : List (Str × Bool)} {fb : SM} {fh : XV → SM} {tb : WX → TS} {ts : Addr → Value → Option Addr → TS}
abbrev WN : WX := fun _ _ _ _ => False
theorem pstS_unhot {fr m Hc E a x cls od} {W : WX} : ∀ {r : Ss}, PstS K mg fr m Hc W E (unhot i r) →
    @PstS _ (hotX K mg i a x cls od) K mg fr m Hc WN { nx := fun σ' H' => E.nx (σ'.set i none) H', rt := E.rt, bk := fun σ' H' => E.bk (σ'.set i none) H', ct := fun σ' H' => E.ct (σ'.set i none) H' } r
  | .stk, h => h
  | .mk (.next env) S, h => fun σ' m' Hc' H' e z zz => h _ m' Hc' H' e z (ze_leave zz)
  | .mk (.brk env) S, h => fun σ' m' Hc' H' e z zz => h _ m' Hc' H' e z (ze_leave zz)
  | .mk (.cnt env) S, h => fun σ' m' Hc' H' e z zz => h _ m' Hc' H' e z (ze_leave zz)
  | .mk (.ret d) S, h => h
  | .mk (.exc _ _) S, h => h.elim
theorem ss_tryAs (hcat : ∀ nm b, cat.lookup nm = some b → ∀ Ca, mg nm = some (.ref Ca) → PySem.W.exmOne K (.ref Ca) c = some b) (hb : ∀ W, SS K mg W (tb W) fb)
    (hs : ∀ a cls od x, @SS _ (hotX K mg i a x cls od) K mg WN (ts a cls od) (fh x)) : SS K mg Wout (fun D σ H => tb (wAs K c i ts Wout D) D σ H) (zTryAs i cat fb fh) := by
  intro fr m Hc env S σ H E z zz p
  refine hb _ fr m Hc env S σ H E z zz ?_
  unfold zTryAs at p
  cases h : fb env S with
  | stk => rw [h] at p; exact p
  | mk fl S1 =>
    cases fl with
    | next _ => rw [h] at p; exact p
    | ret _ => rw [h] at p; exact p
    | brk _ => rw [h] at p; exact p
    | cnt _ => rw [h] at p; exact p
    | exc x env1 =>
      rw [h] at p
      intro σ' cls od m1 Hc1 H1 x1 z1 zz1 rx
      obtain ⟨Ca, g1, g2, g3⟩ := id rx
      dsimp only at p
      by_cases hi : i < env1.length
      · rw [if_pos hi] at p
        cases hl : cat.lookup x.nm with
        | none => rw [hl] at p; exact p.elim
        | some b =>
          rw [hl] at p
          refine ⟨b, by rw [g2]; exact hcat x.nm b hl Ca g1, fun e a na => ?_, fun e => ?_⟩
          · subst e
            exact hs a cls od x fr m1 Hc1 _ S1 _ H1 _ z1 (ze_enter zz1 hi rx) (pstS_unhot (PstS.mono x1 p))
          · subst e
            exact p σ' cls od m1 Hc1 H1 x1 z1 zz1 rx
      · rw [if_neg hi] at p
        exact p.elim
end
section
variable {X : Cx} {x n : Str} {c : Value} {i : Nat} {body suite : List Stmt} {b₀ : Stmt} {np pos pos' : Pos} {tb : WX → TS} {ts : Addr → Value → Option Addr → TS} {Wout : WX} {cat : List (Str × Bool)} {fb : SM} {fh : XV → SM}
theorem xe_takes {W : WX} : Takes (X.tr [] (fun u s' => XE (X.tr [] fun _ _ => False) W u s')) W := fun u s' ⟨a, B, sI, pins, σ, H, cls, d, e, I, h⟩ =>
  ⟨a, B, sI, pins, σ, H, cls, d, e, I.wish _, h⟩
theorem zs_tryAs (hs : X.stack = X.env :: X.outer) (hf : X.env.frame = some X.env.locals) (hN : X.N.Nodup) (hi : X.N[i]? = some n) (hln : X.env.kindOf n = some .local) (hc : Names X x c) (tk : Takes X Wout)
    (hcat : ∀ nm b, cat.lookup nm = some b → ∀ Ca, X.mg nm = some (.ref Ca) → PySem.W.exmOne X.K (.ref Ca) c = some b)
    (hb : ∀ (W : WX) (pn : List (Addr × Obj)) (xe : Value → Shared → Prop), Takes (X.tr pn xe) W → ZSs (X.tr pn xe) W body (tb W) fb)
    (hsu : ∀ (a : Addr) (oe : Obj) (cls : Value) (d : Option Addr) (pn : List (Addr × Obj)) (xv : XV), Zc cls d oe → (∃ vs, oe.data = .fields vs) → @ZSs _ (hotX X.K X.mg i a xv cls d) (X.suite a ((a, oe) :: pn)) WN (b₀ :: suite) (ts a cls d) (fh xv)) :
    ZS X Wout (.Try body [.ExceptHandler (some (.Name x np)) (some n) (b₀ :: suite) pos'] [] [] pos) (fun D σ H => tb (wAs X.K c i ts Wout D) D σ H) (zTryAs i cat fb fh) :=
  ⟨ps_try_as hs hf hN hi hln hc tk (fun W pn xe t _ => (hb W pn xe t).ps) (fun a oe cls d pn hz hf => @ZSs.ps _ (hotX X.K X.mg i a ⟨x, none⟩ cls d) _ _ _ _ _ (hsu a oe cls d pn ⟨x, none⟩ hz hf)),
   ss_tryAs hcat (fun W => (hb W [] _ xe_takes).sd) (fun a cls od xv => @ZSs.sd _ (hotX X.K X.mg i a xv cls od) (X.suite a [(a, ⟨cls, od, .fields #[], #[]⟩)]) _ _ _ _ (hsu a ⟨cls, od, .fields #[], #[]⟩ cls od [] xv ⟨rfl, rfl⟩ ⟨_, rfl⟩))⟩
end
end Z

/-! Z24: what a suite asks of the error that it holds: a field, isinstance with a class, with a tuple of classes. -/
namespace Z
open PySem L2
open PySem.Spec PyProof.Rows
variable [Tabs]
/-- the field n of an error whose class is one of L -/
def zXf (L : List Str) (n : Str) (x : XV) : EM D := fun _ S => if L.contains x.nm then match x.fs with
    | some fs => match fs.lookup n with
      | some d => .ok d S
      | none => .stk
    | none => .stk
  else .stk
structure FldC (K : PySem.W.Frag) (mg : Mg) (n nm : Str) : Prop where
  ex : ∃ C, mg nm = some (.ref C) ∧ XfC K C ∧ PySem.W.findIn K (.ref C) n = some none
def tXfE (K : PySem.W.Frag) (a : Addr) (cls : Value) (d : Option Addr) (n : Str) (te : TE) : TE := fun σ H Q => ∃ C, XfC K C ∧ PySem.W.findIn K (.ref C) n = some none ∧ tXf a cls d C n te σ H Q
/-- isinstance by the class's name -/
def zXis (tab : List (Str × Bool)) (x : XV) : EM D := fun _ S => match tab.lookup x.nm with
  | some b => .ok (.bl b) S
  | none => .stk
structure IsC (K : PySem.W.Frag) (mg : Mg) (us : List Value) (nm : Str) (b : Bool) : Prop where
  ex : ∃ C, mg nm = some (.ref C) ∧ ExcC K C ∧ PySem.W.kitAny K (.ref C) us = some b
def DOk (d : Option Addr) (H : Hp) : Prop := d = none ∨ ∃ dd fs, d = some dd ∧ H dd = some (.xd fs)
def rIsX (K : PySem.W.Frag) (a : Addr) (cls : Value) (d : Option Addr) : List V → Hp → VK → Prop := fun xs H Q => ∃ (C : Addr) (c : V) (u : Value) (b : Bool), cls = .ref C ∧ ExcC K C ∧ DOk d H ∧ xs = [.ref a, c] ∧ ClsV c u ∧ PySem.W.kitOne K cls u = some b ∧ Q (.bl b) H
def rIsXT (K : PySem.W.Frag) (a : Addr) (cls : Value) (d : Option Addr) : List V → Hp → VK → Prop := fun xs H Q => ∃ (C tp : Addr) (cs : List V) (us : List Value) (b : Bool), cls = .ref C ∧ ExcC K C ∧ DOk d H ∧ xs = [.ref a, .ref tp] ∧ H tp = some (.tup cs) ∧ Paired ClsV cs us ∧ PySem.W.kitAny K cls us = some b ∧ Q (.bl b) H
section
variable {X : Cx} {a C : Addr} {oe : Obj} {cls : Value} {d : Option Addr} {pn : List (Addr × Obj)}
theorem inst_suite {pins : List (Addr × Obj)} {σ : L2.St} {H : Hp} {s : Shared} (hz : Zc (.ref C) d oe) (hf : ∃ vs, oe.data = .fields vs) (I : Inv (X.suite a ((a, oe) :: pn)) pins σ H s) (hd : DOk d H) : ∃ od, PySem.W.InstAt s.heap a oe C od := by
  obtain ⟨hget, _⟩ := I.pin (a, oe) (List.mem_append_left _ List.mem_cons_self)
  obtain ⟨vs, hv⟩ := hf
  rcases hd with rfl | ⟨dd, fs, rfl, e⟩
  · refine ⟨none, hget, hz.1, by unfold PySem.W.notCls; rw [hv] <;> rfl, ?_⟩
    rw [hz.2]; trivial
  · obtain ⟨mA, hns, _⟩ := (show ObjOk X.prog X.w H s.heap dd (.xd fs) from I.hok dd _ e)
    obtain ⟨od, ho, _⟩ := lookIn_ns hns
    exact ⟨some od, hget, hz.1, by unfold PySem.W.notCls; rw [hv] <;> rfl, by rw [hz.2]; exact ho⟩
theorem kitx_suite {K : PySem.W.Frag} {od : Option Obj} (E : ExcC K C) : PySem.W.KitX K (.ref a) (.ref C) (fun h => PySem.W.InstAt h a oe C od) := by
  have hcl : (PySem.W.clsIn K C).isSome = true := by
    obtain ⟨cd, hc, _⟩ := PySem.W.any_some E.hd
    rw [hc]; rfl
  exact PySem.W.kitx_exc hcl E.hg E.hk E.hs E.ha E.hn E.ht E.hm
theorem two_ref {c : V} {us : List Value} (vs : Vals [.ref a, c] us) : ∃ u2, us = [.ref a, u2] ∧ RelV c u2 := by
  cases vs with
  | cons q1 vs1 =>
    cases vs1 with
    | cons q2 vs2 =>
      cases vs2
      obtain rfl : _ = Value.ref a := q1
      exact ⟨_, rfl, q2⟩
theorem classes_at {P : Program} {w : World} {H : Hp} {h : Heap} {tp : Addr} {cs : List V} {us : List Value} (ok : HOk P w H h) (hT : H tp = some (.tup cs)) (k : Paired ClsV cs us) : ∃ dd n sl, h.get? tp = some ⟨.type "tuple", dd, .seq us.toArray n, sl⟩ := by
  have q : ObjOk P w H h tp (.tup cs) := ok tp _ hT
  obtain ⟨_, its, vs, ob, g1, g2, n, g3⟩ := q
  rw [ClsV.all k vs] at g3
  cases ob with
  | mk oc odd dt sl =>
    dsimp only at g2 g3
    subst g2 g3
    exact ⟨odd, n, sl, g1⟩
theorem call_isX (hz : Zc cls d oe) (hf : ∃ vs, oe.data = .fields vs) : CallR (X.suite a ((a, oe) :: pn)) (.builtin "isinstance") (rIsX X.K a cls d) :=
  fun pins s σ H xs us Q I vs ⟨C, c, u, b, ec, E, hd, ex, k, e, q⟩ => by
    subst ec ex
    obtain ⟨u2, eu, r2⟩ := two_ref vs
    rw [k.eq r2] at eu
    obtain ⟨od, J⟩ := inst_suite hz hf I hd
    rw [eu]
    exact PySem.W.kia_one (kitx_suite E) I.kIn J e (fun z => nomatch z) fun tk => ⟨.bl b, H, I.tok tk, rfl, q⟩
theorem call_isXT (hz : Zc cls d oe) (hf : ∃ vs, oe.data = .fields vs) : CallR (X.suite a ((a, oe) :: pn)) (.builtin "isinstance") (rIsXT X.K a cls d) :=
  fun pins s σ H xs us Q I vs ⟨C, tp, cs, ws, b, ec, E, hd, ex, hT, k, e, q⟩ => by
    subst ec ex
    obtain ⟨u2, eu, r2⟩ := two_ref vs
    obtain rfl : u2 = Value.ref tp := r2
    obtain ⟨dd, n, sl, at_⟩ := classes_at I.hok hT k
    obtain ⟨od, J⟩ := inst_suite hz hf I hd
    rw [eu]
    exact PySem.W.kia_tup (kitx_suite E) I.kIn J at_ e (fun z => nomatch z) fun tk => ⟨.bl b, H, I.tok tk, rfl, q⟩
theorem pe_xfE {e : Expr} {te : TE} {n : Str} {pos : Pos} (hz : Zc cls d oe) (hf : ∃ vs, oe.data = .fields vs) (he : PE (X.suite a ((a, oe) :: pn)) e te) (hb : attributeBase e n X.env (eval e X.env) = eval e X.env := by rfl) :
    PE (X.suite a ((a, oe) :: pn)) (.Attribute e n pos) (tXfE X.K a cls d n te) := ⟨fun pins s σ H Q I ⟨C, T, hno, h⟩ => (pe_xf T hno hz hf he hb).run pins s σ H Q I h⟩
end
section
variable {K : PySem.W.Frag} {mg : Mg} {a : Addr} {cls : Value} {d : Option Addr} {x : XV} {i : Nat} {n : Str} {W : WX}
theorem se_xf {L : List Str} (hL : ∀ nm ∈ L, FldC K mg n nm) : @SE _ (hotX K mg i a x cls d) K mg W (tXfE K a cls d n (tVar i)) (zXf L n x) := by
  intro fr m Hc env S σ H Q z zz p
  obtain ⟨h1, Ca, g1, g2, g3⟩ := @Ze.hot (hotX K mg i a x cls d) _ _ _ _ _ zz
  unfold zXf at p
  cases hc : L.contains x.nm with
  | false => rw [hc] at p; exact p.elim
  | true =>
    rw [hc, if_pos rfl] at p
    obtain ⟨C, c1, c2, c3⟩ := (hL x.nm (by simpa using hc)).ex
    have e : Ca = C := by rw [c1] at g1; cases g1; rfl
    subst e
    cases hf : x.fs with
    | none => rw [hf] at p; exact p.elim
    | some fs =>
      rw [hf] at p g3
      obtain ⟨dd, vfs, e1, e2, e3⟩ := g3
      dsimp only at p
      cases hl : fs.lookup n with
      | none => rw [hl] at p; exact p.elim
      | some dv =>
        rw [hl] at p
        obtain ⟨v, q1, q2⟩ := e3.look hl
        exact ⟨Ca, c2, c3, _, h1, rfl, g2, dd, vfs, v, e1, z.sub _ _ e2, q1, p.use z q2⟩
theorem dok_of {m Hc fr S H H0} (z : Zh K fr m Hc S H) (r : RepX K mg Hc m x cls d H0) : DOk d H := by
  obtain ⟨Ca, g1, g2, g3⟩ := r
  cases hf : x.fs with
  | none => rw [hf] at g3; exact .inl g3
  | some fs =>
    rw [hf] at g3
    obtain ⟨dd, vfs, e1, e2, _⟩ := g3
    exact .inr ⟨dd, vfs, e1, z.sub _ _ e2⟩
theorem kitAny_one {K : PySem.W.Frag} {t u : Value} {b : Bool} (h : PySem.W.kitAny K t [u] = some b) : PySem.W.kitOne K t u = some b := by
  unfold PySem.W.kitAny at h
  match hk : PySem.W.kitOne K t u, h with
  | none, h => exact h
  | some true, h => exact h
  | some false, h => exact h
theorem se_isX {c : V} {u : Value} {tab : List (Str × Bool)} (k : ClsV c u) (hT : ∀ nm b, tab.lookup nm = some b → IsC K mg [u] nm b) :
    @SE _ (hotX K mg i a x cls d) K mg W (tCB (rIsX K a cls d) (tCons (tVar i) (tCons (tC c) tNil))) (zXis tab x) := by
  intro fr m Hc env S σ H Q z zz p
  obtain ⟨h1, r⟩ := @Ze.hot (hotX K mg i a x cls d) _ _ _ _ _ zz
  have dk := dok_of z r
  obtain ⟨Ca, g1, g2, _⟩ := r
  unfold zXis at p
  cases hl : tab.lookup x.nm with
  | none => rw [hl] at p; exact p.elim
  | some b =>
    rw [hl] at p
    obtain ⟨C, c1, c2, c3⟩ := (hT x.nm b hl).ex
    have e : Ca = C := by rw [c1] at g1; cases g1; rfl
    subst e
    exact ⟨_, h1, Ca, c, u, b, g2, c2, dk, rfl, k, by rw [g2]; exact kitAny_one c3, p.use z rfl⟩
def tCs : List V → TA
  | [] => tNil
  | c :: cs => tCons (tC c) (tCs cs)
theorem tCs_of : ∀ {cs : List V} {σ : L2.St} {H : Hp} {Q : List V → Hp → Prop}, Q cs H → tCs cs σ H Q
  | [], _, _, _, h => h
  | c :: cs, _, _, _, h => tCs_of (cs := cs) h
theorem se_isXT {cs : List V} {us : List Value} {tab : List (Str × Bool)} (k : Paired ClsV cs us) (hcs : cs.length ≤ 100) (hT : ∀ nm b, tab.lookup nm = some b → IsC K mg us nm b) :
    @SE _ (hotX K mg i a x cls d) K mg W (tCB (rIsXT K a cls d) (tCons (tVar i) (tCons (tTup (tCs cs)) tNil))) (zXis tab x) := by
  intro fr m Hc env S σ H Q z zz p
  obtain ⟨h1, r⟩ := @Ze.hot (hotX K mg i a x cls d) _ _ _ _ _ zz
  unfold zXis at p
  cases hl : tab.lookup x.nm with
  | none => rw [hl] at p; exact p.elim
  | some b =>
    rw [hl] at p
    refine ⟨_, h1, tCs_of ⟨Nat.le_trans hcs (by rw [sizeLine_eq]; decide), fun tp hp => ?_⟩⟩
    obtain ⟨z2, x2⟩ := z.new (o := .tup cs) hp
    have r2 := RepX.mono (H' := H) x2 r
    have dk := dok_of z2 r2
    obtain ⟨Ca, g1, g2, _⟩ := r
    obtain ⟨C, c1, c2, c3⟩ := (hT x.nm b hl).ex
    have e : Ca = C := by rw [c1] at g1; cases g1; rfl
    subst e
    exact ⟨Ca, tp, cs, us, b, g2, c2, dk, rfl, upd_same, k, by rw [g2]; exact c3, (Pst.mono x2 p).use z2 rfl⟩
end
section
variable {X : Cx} {a : Addr} {oe : Obj} {cls : Value} {d : Option Addr} {pn : List (Addr × Obj)} {x : XV} {i : Nat} {v n : Str} {W : WX} {p p0 pos p1 tpos : Pos} {tk : Nat}
theorem ze_xf {L : List Str} (hz : Zc cls d oe) (hf : ∃ vs, oe.data = .fields vs) (hL : ∀ nm ∈ L, FldC X.K X.mg n nm) (hN : X.N[i]? = some v := by rfl) (hv : Vis X.env.scope v := by first | exact Or.inl rfl | exact Or.inr (Or.inl rfl) | exact Or.inr (Or.inr rfl)) (hd : (v == ("__debug__" : Str)) = false := by decide)
    (hcd : (v == ("__classdict__" : Str)) = false := by decide) (hb : attributeBase (.Name v p) n X.env (eval (.Name v p) X.env) = eval (.Name v p) X.env := by rfl) :
    @ZE _ (hotX X.K X.mg i a x cls d) (X.suite a ((a, oe) :: pn)) W (.Attribute (.Name v p) n pos) (tXfE X.K a cls d n (tVar i)) (zXf L n x) :=
  @ZE.mk _ (hotX X.K X.mg i a x cls d) (X.suite a ((a, oe) :: pn)) W _ _ _ (pe_xfE hz hf (pe_var hN hv hd hcd) hb) (se_xf hL)
theorem ze_isX {cn : Str} {c : V} {u : Value} {tab : List (Str × Bool)} (hz : Zc cls d oe) (hf : ∃ vs, oe.data = .fields vs) (hg : Gl X "isinstance") (hm : X.mg "isinstance" = none) (hc : PE (X.suite a ((a, oe) :: pn)) (.Name cn p1) (tC c)) (k : ClsV c u)
    (hT : ∀ nm b, tab.lookup nm = some b → IsC X.K X.mg [u] nm b) (hN : X.N[i]? = some v := by rfl) (hv : Vis X.env.scope v := by first | exact Or.inl rfl | exact Or.inr (Or.inl rfl) | exact Or.inr (Or.inr rfl)) (hd : (v == ("__debug__" : Str)) = false := by decide)
    (hcd : (v == ("__classdict__" : Str)) = false := by decide)
    (he : starEach [.Name v p0, .Name cn p1] X.env = (false, eval (.Name v p0) X.env) :: starEach [.Name cn p1] X.env := by rfl) (he2 : starEach [.Name cn p1] X.env = (false, eval (.Name cn p1) X.env) :: starEach [] X.env := by rfl) (hpl : (backTo pos (starEach [.Name cn p1] X.env)).any (·.1) = false := by rfl) :
    @ZE _ (hotX X.K X.mg i a x cls d) (X.suite a ((a, oe) :: pn)) W (.Call (.Name "isinstance" p) [.Name v p0, .Name cn p1] [] pos) (tCB (rIsX X.K a cls d) (tCons (tVar i) (tCons (tC c) tNil))) (zXis tab x) :=
  @ZE.mk _ (hotX X.K X.mg i a x cls d) (X.suite a ((a, oe) :: pn)) W _ _ _ (pe_callB (call_isX hz hf) hg hm (by decide +kernel) (pa_cons (pe_var hN hv hd hcd) (pa_cons hc pa_nil he2) he) (by decide) (by decide) he hpl) (se_isX k hT)
theorem ze_isXT {es : List Expr} {cs : List V} {us : List Value} {tab : List (Str × Bool)} (hz : Zc cls d oe) (hf : ∃ vs, oe.data = .fields vs) (hg : Gl X "isinstance") (hm : X.mg "isinstance" = none) (hc : PA (X.suite a ((a, oe) :: pn)) es (tCs cs)) (k : Paired ClsV cs us) (hcs : cs.length ≤ 100)
    (hT : ∀ nm b, tab.lookup nm = some b → IsC X.K X.mg us nm b) (hN : X.N[i]? = some v := by rfl) (hv : Vis X.env.scope v := by first | exact Or.inl rfl | exact Or.inr (Or.inl rfl) | exact Or.inr (Or.inr rfl)) (hd : (v == ("__debug__" : Str)) = false := by decide)
    (hcd : (v == ("__classdict__" : Str)) = false := by decide)
    (he : starEach [.Name v p0, .Tuple es tk tpos] X.env = (false, eval (.Name v p0) X.env) :: starEach [.Tuple es tk tpos] X.env := by rfl) (he2 : starEach [.Tuple es tk tpos] X.env = (false, eval (.Tuple es tk tpos) X.env) :: starEach [] X.env := by rfl) (hpl : (backTo pos (starEach [.Tuple es tk tpos] X.env)).any (·.1) = false := by rfl) :
    @ZE _ (hotX X.K X.mg i a x cls d) (X.suite a ((a, oe) :: pn)) W (.Call (.Name "isinstance" p) [.Name v p0, .Tuple es tk tpos] [] pos) (tCB (rIsXT X.K a cls d) (tCons (tVar i) (tCons (tTup (tCs cs)) tNil))) (zXis tab x) :=
  @ZE.mk _ (hotX X.K X.mg i a x cls d) (X.suite a ((a, oe) :: pn)) W _ _ _ (pe_callB (call_isXT hz hf) hg hm (by decide +kernel) (pa_cons (pe_var hN hv hd hcd) (pa_cons (pe_tup hc) pa_nil he2) he) (by decide) (by decide) he hpl) (se_isXT k hcs hT)
end
end Z

/-! Z25: raise C(e), C an own class whose __init__ stores its one argument in a field of that name. -/
namespace Z
open PySem L2
open PySem.Spec PyProof.Rows
variable [Tabs]
/-- statement j of a class -/
def inClass (j : Nat) (s : Stmt) : Stmt := match s with
  | .ClassDef _ _ _ b _ _ _ _ _ _ _ => b.getD j (.Pass ⟨0, 0, 0, 0⟩)
  | _ => s
def spI (C : Addr) (f : Str) : Sp := fun vs H Q _ => ∃ (a : Addr) (y : V), vs = [.ref a, y] ∧ H a = some (exo a C none) ∧ ∀ dx, H dx = none → dx ≠ a → Q .non (upd (upd H dx (exd dx [(f, y)])) a (exo a C (some dx)))
/-- what the class must say, so that one of it can be made and raised -/
structure MkC (P : Program) (w : World) (K : PySem.W.Frag) (mg : Mg) (base : Heap) (f nm : Str) : Prop where
  ex : ∃ (C fI : Addr) (fd : FuncData), mg nm = some (.ref C) ∧ OexC K C ∧ PySem.W.findIn K (.ref C) f = some none ∧ PySem.W.findIn K (.ref C) "__init__" = some (some (.ref fI)) ∧ PySem.W.typeIn K (.ref fI) = some (.type "function") ∧
    Binds K fd ["self", f] [] ∧ FnOk P w K mg base (L2.CX P w) 1 fI fd ["self", f] (spI C f)
/-- __init__: self.f = f -/
theorem init_okX {P : Program} {w : World} {K : PySem.W.Frag} {mg : Mg} {base : Heap} {C fI : Addr} {fd : FuncData} {f qual : Str} {st : Stmt} {p1 p2 p3 p4 : Pos} (T : OexC K C) (hno : PySem.W.findIn K (.ref C) f = some none) (F : Fun K "__init__" qual st fI fd)
    (S : FnScope ["self", f] ["self", f] (defScope st)) (hbd : defBody st = [.Assign [.Attribute (.Name "self" p1) f p2] (.Name f p3) p4])
    (hv : ∀ cdv A outer (s : Shared) H E, PSs (cxOf (L2.CX P w) P w K mg base ["self", f] qual (defScope st) fI cdv A outer s H E) (defBody st) (tOst K f (tVar 0) (tVar 1))) :
    FnOk P w K mg base (L2.CX P w) 1 fI fd ["self", f] (spI C f) := by
  refine F.okX S (fun vs H Q E ⟨a, y, e, _⟩ => by rw [e]; rfl) fun cdv A outer s H vs Q E hr h => ⟨_, hv cdv A outer s H E, ?_⟩
  obtain ⟨a, y, rfl, ha, k⟩ := h
  exact ⟨y, rfl, .ref a, rfl, a, C, rfl, T, hno, .inl ⟨ha, fun dx h1 h2 => k dx h1 h2⟩⟩
def zRaise1 (nm f : Str) (fe : EM D) : SM := fun env S => (fe env S).st env fun d S1 => .mk (.exc ⟨nm, some [(f, d)]⟩ env) S1
theorem heap_made {H : Hp} {a dx C : Addr} {o : HO} {fs : List (Str × V)} (ha : H a = none) (hne : dx ≠ a) :
    upd (del (upd (upd (upd H a (exo a C none)) dx (exd dx fs)) a (exo a C (some dx))) a) dx o = upd H dx o := by
  funext b
  by_cases hb : b = dx
  · rw [hb, upd_same, upd_same]
  · rw [upd_ne hb, upd_ne hb]
    by_cases hc : b = a
    · rw [hc, del_same, ha]
    · rw [del_ne hc, upd_ne hc, upd_ne hb, upd_ne hc]
def tRaise1 (mg : Mg) (nm f : Str) (W : WX) (te : TE) : TS := fun _ σ H => ∃ C, mg nm = some (.ref C) ∧ tMkO C (spI C f) [] (tCons te tNil) σ H fun cls d H' => W cls d σ H'
section
variable {X : Cx} {W : WX} {nm f : Str} {e : Expr} {te : TE} {fe : EM D} {p pos pos2 : Pos}
theorem ss_raise1 {K mg C} (gm : mg nm = some (.ref C)) (he : SE K mg W te fe) : SS K mg W (fun _ σ H => tMkO C (spI C f) [] (tCons te tNil) σ H fun cls d H' => W cls d σ H') (zRaise1 nm f fe) := by
  intro fr m Hc env S σ H E z zz q
  refine he fr m Hc env S σ H _ z zz (q.bnd zz fun dv S1 y m1 Hc1 H1 x1 z1 r1 q1 => ?_)
  refine ⟨by show 1 ≤ 1000; decide, fun a na => ⟨a, y, rfl, upd_same, fun dx hd hne => ⟨rfl, dx, [(f, y)], upd_same, by rw [upd_ne hne, upd_same], by rw [upd_ne hne] at hd; exact hd, ?_⟩⟩⟩
  have hd' : H1 dx = none := by rw [upd_ne hne] at hd; exact hd
  rw [heap_made na hne]
  obtain ⟨z2, x2⟩ := z1.new (o := .xd [(f, y)]) hd'
  exact q1 σ _ _ m1 _ _ x2 z2 (Ze.mono (x1.trans x2) zz) ⟨C, gm, rfl, dx, [(f, y)], rfl, upd_same, y, [], rfl, Rep.mono x2 _ _ r1, rfl⟩
theorem zs_raise1 (T : MkC X.prog X.w X.K X.mg X.base f nm) (hc : X.calm = true) (hr : Room 2 X.A) (hg : Gl X nm) (tk : Takes X W) (he : ZE X W e te fe) (hdb : (nm == ("__debug__" : Str)) = false := by decide)
    (hst : starEach [e] X.env = (false, eval e X.env) :: starEach [] X.env := by rfl) (hpl : (backTo pos (starEach [] X.env)).any (·.1) = false := by rfl) :
    ZS X W (.Raise (some (.Call (.Name nm p) [e] [] pos)) none pos2) (tRaise1 X.mg nm f W te) (zRaise1 nm f fe) := by
  obtain ⟨C, fI, fd, gm, O, hno, iC, tI, hb, F⟩ := T.ex
  refine ⟨⟨fun pins s σ H D I ⟨C', gm', h⟩ => ?_⟩, fun fr m Hc env S σ H E z zz q => ⟨C, gm, ss_raise1 gm he.sd fr m Hc env S σ H E z zz q⟩⟩
  have e1 : C' = C := by rw [gm] at gm'; cases gm'; rfl
  subst e1
  exact (ps_raise hc tk (pmk_oex O iC tI F hr hb .nil (fun _ _ _ _ _ _ _ ⟨_, _, _, _, _, _, _, _, _, _, _, _, z⟩ => z.elim) hg gm (pa_cons he.pe pa_nil hst) hdb hst hpl)).run pins s σ H D I h
end
end Z

/-! Z26: a tuple that is not empty, times an int from 1 on. -/
namespace Z
open PySem L2
open PySem.Spec PyProof.Rows
variable [Tabs]
/-- times 1: the tuple itself -/
theorem tuple_mul1 (l : Addr) (items : Array Value) (n : Nat) (dd : Option Addr) (sl : Array (Option Value)) (u : Tok) (hne : items.isEmpty = false) :
    Meets (Builtin.«tuple.__mul__» ⟨[.ref l, .int 1 u], []⟩) (fun _ R s => s.heap.get? l = some { cls := .type "tuple", dict := dd, data := .seq items n, slots := sl } ∧ R (.ok (.ret (Value.ref l))) s) :=
  .of_wp fun _ _ _ _ ⟨hp, gs, dr, tk, os⟩ ⟨at_, q⟩ => by
    have ix := AutoSeq1.idx_int
    wp_walk using wpAny_loadPart' at_
    exact ⟨_, rfl, q⟩
def rRep1 (K : PySem.W.Frag) : R2 := fun x y H Q => ∃ l xs, x = .ref l ∧ y = .int 1 ∧ SqT K H l xs ∧ xs ≠ [] ∧ Q (.ref l) H
theorem op_rep1 {X : Cx} : OpR X (binaryOp .Mult) (rRep1 X.K) := by
  rintro pins s σ H x y v u Q I rx ry ⟨l, xs, ex, ey, hT, hne, q⟩
  subst ex ey
  obtain rfl : v = Value.ref l := rx
  obtain ⟨t, eu⟩ := ry
  subst eu
  obtain ⟨its, r, ⟨ob, ho, hc, n, hd⟩, _⟩ := I.tuple hT
  cases ob with
  | mk oc dd dt sl =>
    dsimp only at hc hd
    subst hc hd
    have hi : (its.toArray).isEmpty = false := by
      cases r with
      | nil => exact absurd rfl hne
      | cons _ _ => rfl
    have q0 : EP X pins σ Q (.ref l) s := ⟨.ref l, H, I, rfl, q⟩
    refine wpAny_binaryOp_repeat_ref (T := "tuple") (U := "int") (by decide) ⟨_, ho, rfl⟩ (fun s' => typeIs_int s' 1 t) noFill_tuple_mul F.fills_int_mul F.slot_int_rmul repeat_tuple F.slot_int_index.lookup (call_meets F.slot_int_rmul (typeIs_int s 1 t) F.entry_int_rmul (F.args_int_rmul_2 _ _)
      (int_rmul_tuple 1 t l its.toArray n dd sl) ⟨ho, rfl, ⟨_, ho, rfl⟩, call_meets F.slot_tuple_mul ⟨_, ho, rfl⟩ F.entry_tuple_mul (F.args_tuple_mul_2 _ _) (tuple_mul1 l its.toArray n dd sl t hi) ⟨ho, ?_⟩⟩)
    exact q0
def dMulT (x y : D) (S : Sto) : Rs D := match x, y with
  | .tup xs, .int k => if 0 < xs.length ∧ 1 ≤ k ∧ k ≤ 1000 ∧ xs.length ≤ 1000 then .ok (.tup (List.replicate k.toNat xs).flatten) S else .stk
  | _, _ => .stk
def rMulT (K : PySem.W.Frag) : R2 := fun x y H Q => rRepT K x y H Q ∨ rRep1 K x y H Q
theorem os_mulT {K mg} : OS K mg (rMulT K) dMulT := by
  intro fr m Hc S H x y dx dy w Q z r1 r2 p
  cases dx with
  | tup xs =>
    cases dy <;> first | exact p.elim | skip
    rename_i k
    cases r2
    simp only [dMulT] at p
    by_cases e : 0 < xs.length ∧ 1 ≤ k ∧ k ≤ 1000 ∧ xs.length ≤ 1000
    · rw [if_pos e] at p
      obtain ⟨a, vs, e1, h1, h2⟩ := r1
      subst e1
      have hv := h2.length
      have hne : vs ≠ [] := fun q => by rw [q] at hv; simp at hv; omega
      have sq : SqT K H a vs := .inl (.inl (z.sub _ _ h1))
      by_cases hk : k = 1
      · subst hk
        refine .inr ⟨a, vs, rfl, rfl, sq, hne, p.use z ?_⟩
        have e2 : (List.replicate (1 : Int).toNat xs).flatten = xs := by simp
        rw [e2]
        exact ⟨a, vs, rfl, h1, h2⟩
      · refine .inl ⟨a, k, vs, rfl, rfl, sq, hne, by omega, e.2.2.1, by rw [hv]; exact e.2.2.2, fun q hq => p.useN z hq ?_⟩
        have x := (z.new (o := .tup (List.replicate k.toNat vs).flatten) hq).2
        exact ⟨q, _, rfl, upd_same, (Reps.mono x _ _ h2).rep _⟩
    · rw [if_neg e] at p; exact p.elim
  | _ => cases dy <;> exact p.elim
theorem zo_mulT {X : Cx} : ZO X (binaryOp .Mult) (rMulT X.K) dMulT := ⟨op_repT.or op_rep1, os_mulT⟩
theorem kzo_mulT {X : Cx} {K : PySem.W.Frag} (hK : X.K = K) : ZO X (binaryOp .Mult) (rMulT K) dMulT := by subst hK; exact zo_mulT
end Z

namespace Z
open PySem L2
open PySem.Spec PyProof.Rows
variable [Tabs]
/-! ### one step at a time -/
section
variable {env : En} {S S1 S2 S3 S4 : Sto} {a b c : EM D} {r : EM (List D)} {d d1 d2 d3 d4 : D} {ds : List D} {F : List D → Sto → Rs D} {o : List D → Sto → Rs D} {R : Rs D} {t u : EM Bool} {x y : Bool}
theorem nil_n : zNil env S = .ok [] S := rfl
theorem cons_n (h : a env S = .ok d S1) (h2 : r env S1 = .ok ds S2) : zCons a r env S = .ok (d :: ds) S2 := by simp [h, h2]
theorem one_n (h : a env S = .ok d S1) : zCons a zNil env S = .ok [d] S1 := cons_n h nil_n
theorem call_n (h : r env S = .ok ds S1) (h2 : o ds S1 = R) : zCall o r env S = R := by rw [zCall, h]; exact h2
theorem callF_n {n : Nat} (h : r env S = .ok ds S1) (hl : ds.length = n) (h2 : F ds S1 = R) : zCallF n F r env S = R := by rw [zCallF, h, Rs.bnd_ok, if_pos hl]; exact h2
theorem callF1 (h : a env S = .ok d S1) (h2 : F [d] S1 = R) : zCallF 1 F (zCons a zNil) env S = R := callF_n (one_n h) rfl h2
theorem callF2 (h : a env S = .ok d S1) (h' : b env S1 = .ok d1 S2) (h2 : F [d, d1] S2 = R) : zCallF 2 F (zCons a (zCons b zNil)) env S = R := callF_n (cons_n h (one_n h')) rfl h2
theorem callF3 (h : a env S = .ok d S1) (h' : b env S1 = .ok d1 S2) (h'' : c env S2 = .ok d2 S3) (h2 : F [d, d1, d2] S3 = R) : zCallF 3 F (zCons a (zCons b (zCons c zNil))) env S = R := callF_n (cons_n h (cons_n h' (one_n h''))) rfl h2
theorem callF4 {e : EM D} (h : a env S = .ok d S1) (h' : b env S1 = .ok d1 S2) (h'' : c env S2 = .ok d2 S3) (h3 : e env S3 = .ok d3 S4) (h2 : F [d, d1, d2, d3] S4 = R) : zCallF 4 F (zCons a (zCons b (zCons c (zCons e zNil)))) env S = R := callF_n (cons_n h (cons_n h' (cons_n h'' (one_n h3)))) rfl h2
theorem callK_n {n : Nat} {pm : List Nat} {k : EM (List D)} {es : List D} (h : r env S = .ok ds S1) (h' : k env S1 = .ok es S2) (hl : (permL pm (ds ++ es)).length = n) (h2 : F (permL pm (ds ++ es)) S2 = R) : zCallK n F pm r k env S = R := by rw [zCallK, h, Rs.bnd_ok, h', Rs.bnd_ok, if_pos hl]; exact h2
theorem op_n {o : D → D → Sto → Rs D} (h : a env S = .ok d S1) (h' : b env S1 = .ok d1 S2) (h2 : o d d1 S2 = R) : zOp o a b env S = R := by rw [zOp, h, Rs.bnd_ok, h', Rs.bnd_ok]; exact h2
theorem tup_n (h : r env S = .ok ds S1) (hl : ds.length ≤ bigN) : zTup r env S = .ok (.tup ds) S1 := by rw [zTup, h, Rs.bnd_ok, if_pos hl]
theorem lst_n (h : r env S = .ok ds S1) (hl : ds.length ≤ bigN) : zLst r env S = .ok (.lst ds) S1 := by rw [zLst, h, Rs.bnd_ok, if_pos hl]
theorem lstC_n (h : r env S = .ok ds S1) (hl : ds.length ≤ bigN) : zLstC r env S = .ok (.ptr S1.length) (S1 ++ [.lst ds]) := by rw [zLstC, h, Rs.bnd_ok, if_pos hl]
theorem tup2_n (h : a env S = .ok d S1) (h' : b env S1 = .ok d1 S2) : zTup (zCons a (zCons b zNil)) env S = .ok (.tup [d, d1]) S2 := tup_n (cons_n h (one_n h')) (by simp [bigN])
theorem lst2_n (h : a env S = .ok d S1) (h' : b env S1 = .ok d1 S2) : zLst (zCons a (zCons b zNil)) env S = .ok (.lst [d, d1]) S2 := lst_n (cons_n h (one_n h')) (by simp [bigN])
theorem ret_n (h : a env S = .ok d S1) : zRet a env S = .mk (.ret d) S1 := by rw [zRet, h]; rfl
theorem tru_n (h : a env S = .ok d S1) (h2 : truD S1 d = some x) : zTru a env S = .ok x S1 := by rw [zTru, h, Rs.bnd_ok, h2]
theorem truB_n (h : a env S = .ok (.bl x) S1) : zTru a env S = .ok x S1 := tru_n h rfl
theorem not_n (h : t env S = .ok x S1) : zNot t env S = .ok (!x) S1 := by rw [zNot, h]; rfl
theorem b_n (h : a env S = .ok (.bl x) S1) : zB a env S = .ok x S1 := by rw [zB, h]; rfl
theorem and_n (h : t env S = .ok true S1) (h2 : u env S1 = .ok x S2) : zAnd t u env S = .ok x S2 := by rw [zAnd, h, Rs.bnd_ok, if_pos rfl]; exact h2
theorem and_f (h : t env S = .ok false S1) : zAnd t u env S = .ok false S1 := by rw [zAnd, h, Rs.bnd_ok, if_neg (by decide)]
theorem or_n (h : t env S = .ok false S1) (h2 : u env S1 = .ok x S2) : zOr t u env S = .ok x S2 := by rw [zOr, h, Rs.bnd_ok, if_neg (by decide)]; exact h2
theorem or_t (h : t env S = .ok true S1) : zOr t u env S = .ok true S1 := by rw [zOr, h, Rs.bnd_ok, if_pos rfl]
theorem andV_n (h : a env S = .ok (.bl true) S1) (h2 : b env S1 = R) : zAndV a b env S = R := by rw [zAndV, h]; exact h2
theorem andV_f (h : a env S = .ok (.bl false) S1) : zAndV a b env S = .ok (.bl false) S1 := by rw [zAndV, h]; rfl
theorem orV_n (h : a env S = .ok (.bl false) S1) (h2 : b env S1 = R) : zOrV a b env S = R := by rw [zOrV, h]; exact h2
theorem orV_t (h : a env S = .ok (.bl true) S1) : zOrV a b env S = .ok (.bl true) S1 := by rw [zOrV, h]; rfl
theorem expr_n (h : a env S = .ok d S1) : zExpr a env S = .mk (.next env) S1 := by rw [zExpr, h]; rfl
theorem asg_n {g : GM} {env' : En} (h : a env S = .ok d S1) (h2 : g d env = some env') : zAsg a g env S = .mk (.next env') S1 := by rw [zAsg, h, Rs.st_ok, h2]
/-- a check that must hold: if not ..: return False -/
theorem chk {g : SM} {rs : Ss} {k : SM} (h : t env S = .ok true S1) (h2 : k env S1 = rs) : zSeq (zIfS (zNot t) g zNext) k env S = rs := seq_n (if_f (not_n h) rfl) h2
/-! ### comprehensions that leave the store alone -/
theorem rng1 {a : EM D} {T : Sto} {n : Nat} (hn : n ≤ 4096) (h : a env T = .ok (dN n) T) : zRange1 (zCons a zNil) env T = .ok ⟨(List.range n).map dN, none⟩ T := by
  rw [zRange1, one_n h]
  simp [dN, show (n : Int) ≤ 1000000 by omega, show -1000000 ≤ (n : Int) by omega, rangeD_n]
theorem len_n {xs : List D} {T T1 : Sto} (h : a env T = .ok (.lst xs) T1) : zCall dLen (zCons a zNil) env T = .ok (dN xs.length) T1 := call_n (one_n h) rfl
theorem lenT_n {xs : List D} {T T1 : Sto} (h : a env T = .ok (.tup xs) T1) : zCall dLen (zCons a zNil) env T = .ok (dN xs.length) T1 := call_n (one_n h) rfl
theorem tupOf_n {xs : List D} {T T1 : Sto} (h : a env T = .ok (.lst xs) T1) : zCall dTuple (zCons a zNil) env T = .ok (.tup xs) T1 := call_n (one_n h) rfl
theorem src_t {xs : List D} {T T1 : Sto} (h : a env T = .ok (.tup xs) T1) : zSrc a env T = .ok ⟨xs, none⟩ T1 := by rw [zSrc, h]; rfl
theorem src_l {xs : List D} {T T1 : Sto} (h : a env T = .ok (.lst xs) T1) : zSrc a env T = .ok ⟨xs, none⟩ T1 := by rw [zSrc, h]; rfl
theorem enum_l {xs : List D} {T T1 : Sto} (h : a env T = .ok (.lst xs) T1) : zEnum (zCons a zNil) env T = .ok ⟨xs.zipIdx.map fun p => D.tup [.int (p.2 : Nat), p.1], none⟩ T1 := by rw [zEnum, one_n h]; rfl
theorem tab_zip (n : Nat) (u : Nat → Nat) : (tab n u).zipIdx.map (fun p => D.tup [.int (p.2 : Nat), p.1]) = (List.range n).map fun x => D.tup [dN x, dN (u x)] := by
  unfold tab
  refine List.ext_getElem (by simp) ?_
  intro i h1 h2
  simp [dN]
theorem enum_tab {n : Nat} {u : Nat → Nat} {T T1 : Sto} (h : a env T = .ok (.lst (tab n u)) T1) : zEnum (zCons a zNil) env T = .ok ⟨(List.range n).map fun x => D.tup [dN x, dN (u x)], none⟩ T1 := by rw [enum_l h, tab_zip]
section
variable {α : Type} {L : List α} {mk v : α → D} {p : α → Bool} {fi : EI} {g : GM} {ft : EM Bool} {fe : EM D} {vs : List Nat}
theorem lcK_pure (hi : fi env S = .ok ⟨L.map mk, none⟩ S1) (hb : L.length ≤ bigN) (h : ∀ a ∈ L, ∃ env1, g (mk a) (wipeE env vs) = some env1 ∧ ft env1 S1 = .ok (p a) S1 ∧ (p a = true → fe env1 S1 = .ok (v a) S1)) :
    zLcK .frz vs fi g ft fe env S = .ok (.lst ((L.filter p).map v)) S1 := by
  rw [zLcK, hi, Rs.bnd_ok]
  show ((lcA ⟨L.map mk, none⟩ g ft fe (wipeE env vs) (L.map mk) [] S1).bnd Mk.frz.res) = _
  rw [lcA_pure rfl L [] (by simpa using hb) h]
  rfl
theorem tG_pure (hi : fi env S = .ok ⟨L.map mk, none⟩ S1) (hb : L.length ≤ bigN) (h : ∀ a ∈ L, ∃ env1, g (mk a) (wipeE env vs) = some env1 ∧ ft env1 S1 = .ok (p a) S1 ∧ (p a = true → fe env1 S1 = .ok (v a) S1)) :
    zTG vs fi g ft fe env S = .ok (.tup ((L.filter p).map v)) S1 := by
  rw [zTG, hi, Rs.bnd_ok]
  show ((lcA ⟨L.map mk, none⟩ g ft fe (wipeE env vs) (L.map mk) [] S1).bnd _) = _
  rw [lcA_pure rfl L [] (by simpa using hb) h]
  rfl
/-- all (pol true), any (pol false), its items' truths told by q -/
theorem qA_pure {pol : Bool} {s : Src} {q : α → Bool} {w : α → D} (hs : s.okAt S = true) : ∀ (L : List α) (k : Nat), k + L.length ≤ bigN →
    (∀ a ∈ L, ∃ env1, g (mk a) env = some env1 ∧ ft env1 S = .ok (p a) S ∧ (p a = true → fe env1 S = .ok (w a) S ∧ dtru (w a) = some (q a))) → qA pol s g ft fe env (L.map mk) k S = .ok (if pol = true then (L.filter p).all q else (L.filter p).any q) S
  | [], k, _, _ => by
    rw [List.map_nil, qA, if_pos hs]
    cases pol <;> rfl
  | a :: L, k, hb, h => by
    obtain ⟨env1, h1, h2, h3⟩ := h a List.mem_cons_self
    have hb' : k + L.length + 1 ≤ bigN := by simp at hb; omega
    rw [List.map_cons, qA, if_pos hs, h1]
    simp only [h2, Rs.nox_ok, Rs.bnd_ok]
    cases hp : p a with
    | false =>
      rw [if_neg (by decide), qA_pure hs L k (by omega) fun b hb => h b (List.mem_cons_of_mem _ hb), List.filter_cons_of_neg (by simp [hp])]
    | true =>
      obtain ⟨h4, h5⟩ := h3 hp
      rw [if_pos rfl, h4]
      simp only [Rs.nox_ok, Rs.bnd_ok, h5]
      rw [if_pos (by omega), List.filter_cons_of_pos hp]
      cases hq : q a <;> cases hpol : pol <;> simp [hq, qA_pure hs L (k + 1) (by omega) fun b hb => h b (List.mem_cons_of_mem _ hb)]
theorem qG_pure {pol : Bool} {q : α → Bool} {w : α → D} (hi : fi env S = .ok ⟨L.map mk, none⟩ S1) (hb : L.length ≤ bigN) (h : ∀ a ∈ L, ∃ env1, g (mk a) (wipeE env vs) = some env1 ∧ ft env1 S1 = .ok (p a) S1 ∧ (p a = true → fe env1 S1 = .ok (w a) S1 ∧ dtru (w a) = some (q a))) :
    zQG pol vs fi g ft fe env S = .ok (.bl (if pol = true then (L.filter p).all q else (L.filter p).any q)) S1 := by
  rw [zQG, hi, Rs.bnd_ok]
  show ((qA pol ⟨L.map mk, none⟩ g ft fe (wipeE env vs) (L.map mk) 0 S1).bnd _) = _
  rw [qA_pure rfl L 0 (by simpa using hb) h]
  rfl
theorem forL_nil {s : Src} {b : SM} {env : En} (hs : s.okAt S = true) : forL s g b [] env S = .mk (.next env) S := by
  rw [forL]; show (if _ then _ else _) = _; rw [if_pos hs]
theorem forL_cons {s : Src} {b : SM} {env env1 : En} {d : D} {L : List D} (hs : s.okAt S = true) (h1 : g d env = some env1) : forL s g b (d :: L) env S = (b env1 S).turn (forL s g b L) := by
  rw [forL]; show (if _ then _ else _) = _; rw [if_pos hs, h1]
/-- a walk that looks for the first item -/
theorem forL_find {s : Src} {b : SM} {w : α → D} {P : En → Prop} (hs : s.okAt S = true) : ∀ (L : List α) (env : En), P env →
    (∀ a ∈ L, ∀ env, P env → ∃ env1 env2, g (mk a) env = some env1 ∧ (p a = true → b env1 S = .mk (.ret (w a)) S) ∧ (p a = false → b env1 S = .mk (.next env2) S ∧ P env2)) →
    (∃ a, L.find? p = some a ∧ forL s g b (L.map mk) env S = .mk (.ret (w a)) S) ∨ (L.find? p = none ∧ ∃ env', P env' ∧ forL s g b (L.map mk) env S = .mk (.next env') S)
  | [], env, hP, _ => .inr ⟨rfl, env, hP, by rw [List.map_nil, forL_nil hs]⟩
  | a :: L, env, hP, h => by
    obtain ⟨env1, env2, h1, h2, h3⟩ := h a List.mem_cons_self env hP
    rw [List.map_cons, forL_cons hs h1]
    cases hp : p a with
    | true => exact .inl ⟨a, by rw [List.find?_cons_of_pos hp], by simp only [h2 hp, Ss.turn_ret]⟩
    | false =>
      obtain ⟨h4, h5⟩ := h3 hp
      simp only [h4, Ss.turn_next]
      rw [List.find?_cons_of_neg (by simp [hp])]
      exact forL_find hs L env2 h5 fun b hb => h b (List.mem_cons_of_mem _ hb)
/-- a walk of checks: each turn goes on -/
theorem forL_all {s : Src} {b : SM} {P : En → Prop} (hs : s.okAt S = true) : ∀ (L : List α) (env : En), P env →
    (∀ a ∈ L, ∀ env, P env → ∃ env1 env2, g (mk a) env = some env1 ∧ b env1 S = .mk (.next env2) S ∧ P env2) → ∃ env', P env' ∧ forL s g b (L.map mk) env S = .mk (.next env') S
  | [], env, hP, _ => ⟨env, hP, by rw [List.map_nil, forL_nil hs]⟩
  | a :: L, env, hP, h => by
    obtain ⟨env1, env2, h1, h2, h3⟩ := h a List.mem_cons_self env hP
    obtain ⟨env', h4, h5⟩ := forL_all hs L env2 h3 fun b hb => h b (List.mem_cons_of_mem _ hb)
    refine ⟨env', h4, ?_⟩
    rw [List.map_cons, forL_cons hs h1]
    simp only [h2, Ss.turn_next]
    exact h5
end
end
end Z

namespace K06
open PySem L2 Z
open PySem.Spec PyProof.Rows
variable [Tabs]
abbrev N_lowest_bit : List Str := ["mask"]
noncomputable def run_lowest_bit : SM :=
    (zRet (zOp dSub (zUn dBits (zOp dAnd (zVar 0) (zUn dNeg (zVar 0)))) (zC (.int 1))))
noncomputable def F_lowest_bit : List D → Sto → Rs D := Fof 0 N_lowest_bit run_lowest_bit
abbrev N_bits_of : List Str := ["mask", "points", "x"]
noncomputable def run_bits_of : SM :=
    (zSeq (zSet 1 (zLstC zNil))
    (zSeq (zWhile (fun _ _ => 100000) (zTru (zVar 0)) (zSeq (zSet 2 (zCallF 1 F_lowest_bit (zCons (zVar 0) zNil)))
    (zSeq (zExpr (zMethL dAppend (zVar 1) (zCons (zVar 2) zNil)))
    (zAug 0 dXor (zOp dShl (zC (.int 1)) (zVar 2))))))
    (zRet (zVar 1))))
noncomputable def F_bits_of : List D → Sto → Rs D := Fof 1 N_bits_of run_bits_of
abbrev N_masks_above : List Str := ["order", "ups", "n", "pairs", "x", "y"]
noncomputable def run_masks_above : SM :=
    (zSeq (zAsg (zVar 0) (zgTup 2 (zgCons (zgName 2) (zgCons (zgName 3) zgNil))))
    (zSeq (zSet 1 (zOp dMulC (zLst (zCons (zC (.int 0)) zNil)) (zVar 2)))
    (zSeq (zFor (zSrc (zVar 3)) (zgTup 2 (zgCons (zgName 4) (zgCons (zgName 5) zgNil))) (zAugS (zVar 1) (zVar 4) dOr (zOp dShl (zC (.int 1)) (zVar 5))))
    (zRet (zVar 1)))))
noncomputable def F_masks_above : List D → Sto → Rs D := Fof 1 N_masks_above run_masks_above
abbrev N_masks_below : List Str := ["order", "downs", "n", "pairs", "x", "y"]
noncomputable def run_masks_below : SM :=
    (zSeq (zAsg (zVar 0) (zgTup 2 (zgCons (zgName 2) (zgCons (zgName 3) zgNil))))
    (zSeq (zSet 1 (zOp dMulC (zLst (zCons (zC (.int 0)) zNil)) (zVar 2)))
    (zSeq (zFor (zSrc (zVar 3)) (zgTup 2 (zgCons (zgName 4) (zgCons (zgName 5) zgNil))) (zAugS (zVar 1) (zVar 5) dOr (zOp dShl (zC (.int 1)) (zVar 4))))
    (zRet (zVar 1)))))
noncomputable def F_masks_below : List D → Sto → Rs D := Fof 1 N_masks_below run_masks_below
abbrev N_order_from : List Str := ["ups", "pairs", "y", "x", "mask"]
noncomputable def run_order_from : SM :=
    (zSeq (zSet 1 (zLc2K .frz [3, 4, 2] [2] (zEnum (zCons (zVar 0) zNil)) (zgTup 2 (zgCons (zgName 3) (zgCons (zgName 4) zgNil))) zYes (zSrc (zCallF 1 F_bits_of (zCons (zVar 4) zNil))) (zgName 2) zYes (zTup (zCons (zVar 3) (zCons (zVar 2) zNil)))))
    (zRet (zTup (zCons (zCall dLen (zCons (zVar 0) zNil)) (zCons (zCall dTuple (zCons (zVar 1) zNil)) zNil)))))
noncomputable def F_order_from : List D → Sto → Rs D := Fof 0 N_order_from run_order_from
abbrev N__check_size : List Str := ["n"]
noncomputable def run__check_size : SM :=
    (zIfS (zB (zOp dGt (zVar 0) (zC (.int 64)))) zStk zNext)
noncomputable def F__check_size : List D → Sto → Rs D := Fof 0 N__check_size run__check_size
abbrev N_induced : List Str := ["order", "points", "ups", "places", "pairs", "i", "j"]
noncomputable def run_induced : SM :=
    (zSeq (zExpr (zCallF 1 F__check_size (zCons (zCall dLen (zCons (zVar 1) zNil)) zNil)))
    (zSeq (zSet 2 (zCallF 1 F_masks_above (zCons (zVar 0) zNil)))
    (zSeq (zSet 3 (zCall dRange1 (zCons (zCall dLen (zCons (zVar 1) zNil)) zNil)))
    (zSeq (zSet 4 (zLc2K .frz [5, 6] [6] (zSrc (zVar 3)) (zgName 5) zYes (zSrc (zVar 3)) (zgName 6) (zTru (zOp dAnd (zOp dShr (zOp dIx (zVar 2) (zOp dIx (zVar 1) (zVar 5))) (zOp dIx (zVar 1) (zVar 6))) (zC (.int 1)))) (zTup (zCons (zVar 5) (zCons (zVar 6) zNil)))))
    (zRet (zTup (zCons (zCall dLen (zCons (zVar 1) zNil)) (zCons (zCall dTuple (zCons (zVar 4) zNil)) zNil))))))))
noncomputable def F_induced : List D → Sto → Rs D := Fof 0 N_induced run_induced
abbrev N_opposite : List Str := ["order"]
noncomputable def run_opposite : SM :=
    (zSeq (zExpr (zCallF 1 F__check_size (zCons (zOp dIx (zVar 0) (zC (.int 0))) zNil)))
    (zRet (zCallF 1 F_order_from (zCons (zCallF 1 F_masks_below (zCons (zVar 0) zNil)) zNil))))
noncomputable def F_opposite : List D → Sto → Rs D := Fof 0 N_opposite run_opposite
abbrev N__law_mix : List Str := ["cell", "salt", "one"]
noncomputable def run__law_mix : SM :=
    (zSeq (zSet 2 (zOp dMod (zCall dInt (zCons (zOp dAdd (zOp dAdd (zOp dMul (zVar 0) (zC (.int 48271))) (zOp dMul (zVar 1) (zC (.int 69621)))) (zC (.int 12345))) zNil)) (zC (.int 2147483647))))
    (zRet (zOp dMod (zCall dInt (zCons (zOp dAdd (zOp dAdd (zOp dMul (zVar 2) (zVar 2)) (zOp dMul (zVar 2) (zC (.int 16807)))) (zOp dMul (zVar 1) (zC (.int 7919)))) zNil)) (zC (.int 2147483629)))))
noncomputable def F__law_mix : List D → Sto → Rs D := Fof 0 N__law_mix run__law_mix
abbrev N__law_box : List Str := ["script", "cell"]
noncomputable def run__law_box : SM :=
    (zRet (zLstC (zCons (zC (.int 0)) (zCons (zC (.int 0)) (zCons (zC (.int 0)) (zCons (zC (.int 0)) (zCons (zC (.int 1)) (zCons (zLcK .frz [1] (zSrc (zVar 0)) (zgName 1) zYes (zCall dInt (zCons (zVar 1) zNil))) zNil))))))))
noncomputable def F__law_box : List D → Sto → Rs D := Fof 0 N__law_box run__law_box
abbrev N__law_draw : List Str := ["box", "many", "cell", "drawn"]
noncomputable def run__law_draw : SM :=
    (zSeq (zIfS (zAnd (zOr (zB (zOp dEq (zOp dIx (zVar 0) (zC (.int 0))) (zC (.int 0)))) (zB (zOp dEq (zOp dIx (zVar 0) (zC (.int 1))) (zC (.int 0))))) (zB (zOp dLt (zOp dIx (zVar 0) (zC (.int 2))) (zCall dLen (zCons (zOp dIx (zVar 0) (zC (.int 5))) zNil))))) (zSeq (zSet 2 (zOp dIx (zOp dIx (zVar 0) (zC (.int 5))) (zOp dIx (zVar 0) (zC (.int 2)))))
    (zSeq (zPut (zVar 0) (zC (.int 2)) (zOp dAdd (zOp dIx (zVar 0) (zC (.int 2))) (zC (.int 1))))
    (zSeq (zPut (zVar 0) (zC (.int 4)) (zOp dMod (zCall dInt (zCons (zOp dAdd (zOp dMul (zOp dIx (zVar 0) (zC (.int 4))) (zC (.int 31))) (zVar 2)) zNil)) (zC (.int 2147483647))))
    (zSeq (zPut (zVar 0) (zC (.int 0)) (zC (.int 0)))
    (zSeq (zPut (zVar 0) (zC (.int 1)) (zC (.int 60)))
    (zIfS (zB (zOp dEq (zOp dMod (zCall dInt (zCons (zVar 2) zNil)) (zC (.int 2))) (zC (.int 0)))) (zPut (zVar 0) (zC (.int 0)) (zOp dDiv (zCall dAbs (zCons (zVar 2) zNil)) (zC (.int 2)))) zNext)))))) zNext)
    (zSeq (zIfS (zAnd (zB (zOp dGt (zOp dIx (zVar 0) (zC (.int 0))) (zC (.int 0)))) (zB (zOp dGt (zOp dIx (zVar 0) (zC (.int 1))) (zC (.int 0))))) (zSeq (zSet 3 (zOp dMod (zCall dInt (zCons (zOp dIx (zVar 0) (zC (.int 0))) zNil)) (zVar 1)))
    (zSeq (zPut (zVar 0) (zC (.int 0)) (zOp dDiv (zOp dIx (zVar 0) (zC (.int 0))) (zVar 1)))
    (zSeq (zPut (zVar 0) (zC (.int 1)) (zOp dSub (zOp dIx (zVar 0) (zC (.int 1))) (zC (.int 1))))
    (zRet (zVar 3))))) zNext)
    (zSeq (zPut (zVar 0) (zC (.int 3)) (zOp dAdd (zOp dIx (zVar 0) (zC (.int 3))) (zC (.int 1))))
    (zRet (zOp dMod (zCall dInt (zCons (zCallF 2 F__law_mix (zCons (zOp dIx (zVar 0) (zC (.int 4))) (zCons (zOp dIx (zVar 0) (zC (.int 3))) zNil))) zNil)) (zVar 1))))))
noncomputable def F__law_draw : List D → Sto → Rs D := Fof 0 N__law_draw run__law_draw
abbrev N__law_alike : List Str := ["told", "due", "k"]
noncomputable def run__law_alike (F__law_alike : List D → Sto → Rs D) : SM :=
    (zSeq (zIfS (zTru (zIsi ["tuple", "list"] (zVar 1))) (zSeq (zIfS (zOr (zB (zOp dNe (zIsi ["tuple"] (zVar 0)) (zIsi ["tuple"] (zVar 1)))) (zB (zOp dNe (zIsi ["list"] (zVar 0)) (zIsi ["list"] (zVar 1))))) (zRet (zC (.bl false))) zNext)
    (zSeq (zIfS (zB (zOp dNe (zCall dLen (zCons (zVar 0) zNil)) (zCall dLen (zCons (zVar 1) zNil)))) (zRet (zC (.bl false))) zNext)
    (zSeq (zFor (zRange1 (zCons (zCall dLen (zCons (zVar 1) zNil)) zNil)) (zgName 2) (zIfS (zNot (zTru (zCallF 2 F__law_alike (zCons (zOp dIx (zVar 0) (zVar 2)) (zCons (zOp dIx (zVar 1) (zVar 2)) zNil))))) (zRet (zC (.bl false))) zNext))
    (zRet (zC (.bl true)))))) zNext)
    (zSeq (zIfS (zB (zOp dIsN (zVar 1) (zC .non))) (zRet (zOp dIsN (zVar 0) (zC .non))) zNext)
    (zSeq (zIfS (zTru (zIsi ["bool"] (zVar 1))) (zRet (zAndV (zIsi ["bool"] (zVar 0)) (zOp dEq (zVar 0) (zVar 1)))) zNext)
    (zSeq (zIfS (zTru (zIsi ["str"] (zVar 1))) (zRet (zAndV (zIsi ["str"] (zVar 0)) (zOp dEq (zVar 0) (zVar 1)))) zNext)
    (zRet (zAndV (zIsi ["int"] (zVar 0)) (zAndV (zNotV (zIsi ["bool"] (zVar 0))) (zOp dEq (zVar 0) (zVar 1)))))))))
noncomputable def F__law_alike : Nat → List D → Sto → Rs D
  | 0 => fun _ _ => .stk
  | k + 1 => Fof 0 N__law_alike (run__law_alike (F__law_alike k))
abbrev N__law_line : List Str := ["box", "n", "left", "k"]
noncomputable def run__law_line : SM :=
    (zSeq (zSet 2 (zLcK .cel [3] (zRange1 (zCons (zVar 1) zNil)) (zgName 3) zYes (zVar 3)))
    (zRet (zLcK .frz [3] (zRange1 (zCons (zVar 1) zNil)) (zgName 3) zYes (zMethL dPopAt (zVar 2) (zCons (zCallF 2 F__law_draw (zCons (zVar 0) (zCons (zCall dLen (zCons (zVar 2) zNil)) zNil))) zNil)))))
noncomputable def F__law_line : List D → Sto → Rs D := Fof 0 N__law_line run__law_line
abbrev N__law_size : List Str := ["box", "kind"]
noncomputable def run__law_size : SM :=
    (zSeq (zSet 1 (zCallF 2 F__law_draw (zCons (zVar 0) (zCons (zC (.int 16)) zNil))))
    (zSeq (zIfS (zB (zOp dLt (zVar 1) (zC (.int 9)))) (zRet (zCallF 2 F__law_draw (zCons (zVar 0) (zCons (zOp dIx (zLst (zCons (zC (.int 4)) (zCons (zC (.int 7)) (zCons (zC (.int 9)) zNil)))) (zOp dMod (zCall dInt (zCons (zVar 1) zNil)) (zC (.int 3)))) zNil)))) zNext)
    (zSeq (zIfS (zB (zOp dLt (zVar 1) (zC (.int 14)))) (zRet (zOp dAdd (zC (.int 4)) (zCallF 2 F__law_draw (zCons (zVar 0) (zCons (zC (.int 11)) zNil))))) zNext)
    (zRet (zOp dIx (zLst (zCons (zOp dAdd (zC (.int 15)) (zCallF 2 F__law_draw (zCons (zVar 0) (zCons (zC (.int 50)) zNil)))) (zCons (zC (.int 64)) zNil))) (zOp dMod (zCall dInt (zCons (zVar 1) zNil)) (zC (.int 2))))))))
noncomputable def F__law_size : List D → Sto → Rs D := Fof 0 N__law_size run__law_size
abbrev N__law_linked : List Str := ["box", "line", "kind", "half", "links", "k", "places", "j", "turn"]
noncomputable def run__law_linked : SM :=
    (zSeq (zSet 2 (zCallF 2 F__law_draw (zCons (zVar 0) (zCons (zC (.int 6)) zNil))))
    (zSeq (zSet 3 (zOp dDiv (zCall dLen (zCons (zVar 1) zNil)) (zC (.int 2))))
    (zSeq (zSet 4 (zLst zNil))
    (zSeq (zFor (zRange2 (zCons (zC (.int 1)) (zCons (zCall dLen (zCons (zVar 1) zNil)) zNil))) (zgName 5) (zSeq (zSet 6 (zLst zNil))
    (zSeq (zIfS (zAnd (zB (zOp dLt (zVar 2) (zC (.int 2)))) (zB (zOp dLt (zCall dLen (zCons (zVar 1) zNil)) (zC (.int 10))))) (zSet 6 (zLcK .frz [7] (zRange1 (zCons (zVar 5) zNil)) (zgName 7) (zB (zOp dEq (zCallF 2 F__law_draw (zCons (zVar 0) (zCons (zC (.int 2)) zNil))) (zC (.int 0)))) (zVar 7))) (zIfS (zAnd (zB (zOp dLt (zVar 2) (zC (.int 2)))) (zB (zOp dLt (zCall dLen (zCons (zVar 1) zNil)) (zC (.int 33))))) (zSet 6 (zLcK .frz [7] (zRange1 (zCons (zOp dMul (zVar 3) (zCall dInt (zCons (zOp dGe (zVar 5) (zVar 3)) zNil))) zNil)) (zgName 7) (zB (zOp dEq (zCallF 2 F__law_draw (zCons (zVar 0) (zCons (zC (.int 2)) zNil))) (zC (.int 0)))) (zVar 7))) (zIfS (zB (zOp dLt (zVar 2) (zC (.int 3)))) (zSet 6 (zLcK .frz [8] (zRange1 (zCons (zCallF 2 F__law_draw (zCons (zVar 0) (zCons (zC (.int 4)) zNil))) zNil)) (zgName 8) zYes (zCallF 2 F__law_draw (zCons (zVar 0) (zCons (zVar 5) zNil))))) (zIfS (zB (zOp dEq (zVar 2) (zC (.int 3)))) (zSet 6 (zLst (zCons (zCallF 2 F__law_draw (zCons (zVar 0) (zCons (zVar 5) zNil))) zNil))) (zIfS (zAnd (zB (zOp dEq (zVar 2) (zC (.int 4)))) (zB (zOp dGt (zCallF 2 F__law_draw (zCons (zVar 0) (zCons (zC (.int 3)) zNil))) (zC (.int 0))))) (zSet 6 (zLcK .frz [8] (zRange1 (zCons (zC (.int 2)) zNil)) (zgName 8) zYes (zOp dSub (zOp dSub (zVar 5) (zC (.int 1))) (zCallF 2 F__law_draw (zCons (zVar 0) (zCons (zCall dMin2 (zCons (zVar 5) (zCons (zC (.int 3)) zNil))) zNil)))))) (zIfS (zAnd (zB (zOp dEq (zVar 2) (zC (.int 5)))) (zB (zOp dGt (zCallF 2 F__law_draw (zCons (zVar 0) (zCons (zC (.int 12)) zNil))) (zC (.int 0))))) (zSet 6 (zLst (zCons (zOp dSub (zVar 5) (zC (.int 1))) zNil))) zNext))))))
    (zSet 4 (zOp dAdd (zVar 4) (zLcK .frz [7] (zSrc (zVar 6)) (zgName 7) zYes (zTup (zCons (zOp dIx (zVar 1) (zVar 7)) (zCons (zOp dIx (zVar 1) (zVar 5)) zNil)))))))))
    (zRet (zVar 4))))))
noncomputable def F__law_linked : List D → Sto → Rs D := Fof 0 N__law_linked run__law_linked
abbrev N__law_lower : List Str := ["line", "links", "n", "lower", "ahead", "y", "x", "z"]
noncomputable def run__law_lower : SM :=
    (zSeq (zSet 2 (zCall dLen (zCons (zVar 0) zNil)))
    (zSeq (zSet 3 (zLcK .cel [5] (zRange1 (zCons (zVar 2) zNil)) (zgName 5) zYes (zLcK .cel [6] (zRange1 (zCons (zVar 2) zNil)) (zgName 6) zYes (zC (.bl false)))))
    (zSeq (zSet 4 (zLcK .cel [5] (zRange1 (zCons (zVar 2) zNil)) (zgName 5) zYes (zLstC zNil)))
    (zSeq (zFor (zSrc (zVar 1)) (zgTup 2 (zgCons (zgName 6) (zgCons (zgName 5) zgNil))) (zExpr (zMethL dAppend (zOp dIx (zVar 4) (zVar 5)) (zCons (zVar 6) zNil))))
    (zSeq (zFor (zSrc (zVar 0)) (zgName 5) (zFor (zSrc (zOp dIx (zVar 4) (zVar 5))) (zgName 6) (zIfS (zB (zOp dEq (zCall dLen (zCons (zOp dIx (zVar 4) (zVar 6)) zNil)) (zC (.int 0)))) (zPut (zOp dIx (zVar 3) (zVar 5)) (zVar 6) (zC (.bl true))) (zIfS (zNot (zTru (zOp dIx (zOp dIx (zVar 3) (zVar 5)) (zVar 6)))) (zPut (zVar 3) (zVar 5) (zLcK .cel [7] (zRange1 (zCons (zVar 2) zNil)) (zgName 7) zYes (zOrV (zOp dIx (zOp dIx (zVar 3) (zVar 5)) (zVar 7)) (zOrV (zOp dIx (zOp dIx (zVar 3) (zVar 6)) (zVar 7)) (zOp dEq (zVar 7) (zVar 6)))))) zNext))))
    (zRet (zVar 3)))))))
noncomputable def F__law_lower : List D → Sto → Rs D := Fof 2 N__law_lower run__law_lower
abbrev N__law_pairs : List Str := ["lower", "found", "x", "y"]
noncomputable def run__law_pairs : SM :=
    (zSeq (zSet 1 (zLst zNil))
    (zSeq (zFor (zRange1 (zCons (zCall dLen (zCons (zVar 0) zNil)) zNil)) (zgName 2) (zSet 1 (zOp dAdd (zVar 1) (zLcK .frz [3] (zRange1 (zCons (zCall dLen (zCons (zVar 0) zNil)) zNil)) (zgName 3) (zTru (zOp dIx (zOp dIx (zVar 0) (zVar 3)) (zVar 2))) (zTup (zCons (zVar 2) (zCons (zVar 3) zNil)))))))
    (zRet (zCall dTuple (zCons (zVar 1) zNil)))))
noncomputable def F__law_pairs : List D → Sto → Rs D := Fof 0 N__law_pairs run__law_pairs
abbrev N__law_chosen : List Str := ["box", "points", "share", "is_few", "x"]
noncomputable def run__law_chosen : SM :=
    (zSeq (zSet 2 (zOp dIx (zLst (zCons (zC (.int 2)) (zCons (zC (.int 4)) (zCons (zC (.int 4)) zNil)))) (zCallF 2 F__law_draw (zCons (zVar 0) (zCons (zC (.int 3)) zNil)))))
    (zSeq (zSet 3 (zOp dEq (zCallF 2 F__law_draw (zCons (zVar 0) (zCons (zC (.int 2)) zNil))) (zC (.int 0))))
    (zRet (zLcK .frz [4] (zSrc (zVar 1)) (zgName 4) (zB (zOp dEq (zOp dEq (zCallF 2 F__law_draw (zCons (zVar 0) (zCons (zVar 2) zNil))) (zC (.int 0))) (zVar 3))) (zVar 4)))))
noncomputable def F__law_chosen : List D → Sto → Rs D := Fof 0 N__law_chosen run__law_chosen
abbrev N__law_due : List Str := ["lower", "points", "found", "i", "j"]
noncomputable def run__law_due : SM :=
    (zSeq (zSet 2 (zLst zNil))
    (zSeq (zFor (zRange1 (zCons (zCall dLen (zCons (zVar 1) zNil)) zNil)) (zgName 3) (zSet 2 (zOp dAdd (zVar 2) (zLcK .frz [4] (zRange1 (zCons (zCall dLen (zCons (zVar 1) zNil)) zNil)) (zgName 4) (zTru (zOp dIx (zOp dIx (zVar 0) (zOp dIx (zVar 1) (zVar 4))) (zOp dIx (zVar 1) (zVar 3)))) (zTup (zCons (zVar 3) (zCons (zVar 4) zNil)))))))
    (zRet (zTup (zCons (zCall dLen (zCons (zVar 1) zNil)) (zCons (zCall dTuple (zCons (zVar 2) zNil)) zNil))))))
noncomputable def F__law_due : List D → Sto → Rs D := Fof 0 N__law_due run__law_due
abbrev N__law_turned : List Str := ["order", "x", "y"]
noncomputable def run__law_turned : SM :=
    (zRet (zTup (zCons (zOp dIx (zVar 0) (zC (.int 0))) (zCons (zCall dTuple (zCons (zCall dSorted (zCons (zLcK .frz [1, 2] (zSrc (zOp dIx (zVar 0) (zC (.int 1)))) (zgTup 2 (zgCons (zgName 1) (zgCons (zgName 2) zgNil))) zYes (zTup (zCons (zVar 2) (zCons (zVar 1) zNil)))) zNil)) zNil)) zNil))))
noncomputable def F__law_turned : List D → Sto → Rs D := Fof 0 N__law_turned run__law_turned
abbrev N__law_part : List Str := ["box", "order", "lower", "points", "due", "told", "places", "left", "i"]
noncomputable def run__law_part : SM :=
    (zSeq (zSet 4 (zCallF 2 F__law_due (zCons (zVar 2) (zCons (zVar 3) zNil))))
    (zSeq (zSet 5 (zCallF 2 F_induced (zCons (zVar 1) (zCons (zCall dTuple (zCons (zVar 3) zNil)) zNil))))
    (zSeq (zIfS (zOr (zNot (zTru (zCallF 2 (F__law_alike 8) (zCons (zVar 5) (zCons (zVar 4) zNil))))) (zNot (zTru (zCallF 2 (F__law_alike 8) (zCons (zCallF 1 F_opposite (zCons (zVar 5) zNil)) (zCons (zCallF 1 F__law_turned (zCons (zVar 4) zNil)) zNil)))))) (zRet (zC (.bl false))) zNext)
    (zSeq (zIfS (zNot (zTru (zCallF 2 (F__law_alike 8) (zCons (zCallF 2 F_induced (zCons (zCallF 1 F__law_turned (zCons (zVar 1) zNil)) (zCons (zCall dTuple (zCons (zVar 3) zNil)) zNil))) (zCons (zCallF 1 F__law_turned (zCons (zVar 4) zNil)) zNil))))) (zRet (zC (.bl false))) zNext)
    (zSeq (zSet 6 (zCallF 2 F__law_chosen (zCons (zVar 0) (zCons (zLcK .frz [8] (zRange1 (zCons (zCall dLen (zCons (zVar 3) zNil)) zNil)) (zgName 8) zYes (zVar 8)) zNil))))
    (zSeq (zSet 7 (zLcK .frz [8] (zSrc (zVar 6)) (zgName 8) zYes (zOp dIx (zVar 3) (zVar 8))))
    (zRet (zCallF 2 (F__law_alike 8) (zCons (zCallK 2 F_induced [1, 0] zNil (zCons (zCall dTuple (zCons (zVar 6) zNil)) (zCons (zVar 4) zNil))) (zCons (zCallF 2 F__law_due (zCons (zVar 2) (zCons (zVar 7) zNil))) zNil))))))))))
noncomputable def F__law_part : List D → Sto → Rs D := Fof 0 N__law_part run__law_part
abbrev N_law : List Str := ["script", "box", "line", "n", "lower", "order", "points", "other", "turn", "x"]
noncomputable def run_law : SM :=
    (zSeq (zSet 1 (zCallF 1 F__law_box (zCons (zVar 0) zNil)))
    (zSeq (zSet 2 (zCallF 2 F__law_line (zCons (zVar 1) (zCons (zCallF 1 F__law_size (zCons (zVar 1) zNil)) zNil))))
    (zSeq (zSet 3 (zCall dLen (zCons (zVar 2) zNil)))
    (zSeq (zSet 4 (zCallF 2 F__law_lower (zCons (zVar 2) (zCons (zCallF 2 F__law_linked (zCons (zVar 1) (zCons (zVar 2) zNil))) zNil))))
    (zSeq (zSet 5 (zTup (zCons (zVar 3) (zCons (zCallF 1 F__law_pairs (zCons (zVar 4) zNil)) zNil))))
    (zSeq (zSet 6 (zLcK .frz [9] (zRange1 (zCons (zVar 3) zNil)) (zgName 9) zYes (zVar 9)))
    (zSeq (zSet 7 (zCallF 1 F__law_turned (zCons (zVar 5) zNil)))
    (zSeq (zIfS (zNot (zTru (zCallF 2 (F__law_alike 8) (zCons (zLst (zCons (zCallF 1 F_opposite (zCons (zVar 5) zNil)) (zCons (zCallK 1 F_opposite [0] zNil (zCons (zVar 7) zNil)) zNil))) (zCons (zLst (zCons (zVar 7) (zCons (zVar 5) zNil))) zNil))))) (zRet (zC (.bl false))) zNext)
    (zSeq (zIfS (zNot (zTru (zCallF 2 (F__law_alike 8) (zCons (zLst (zCons (zCallF 2 F_induced (zCons (zVar 5) (zCons (zCall dTuple (zCons (zVar 6) zNil)) zNil))) (zCons (zCallK 2 F_induced [1, 0] zNil (zCons (zTup zNil) (zCons (zVar 5) zNil))) zNil))) (zCons (zLst (zCons (zVar 5) (zCons (zTup (zCons (zC (.int 0)) (zCons (zTup zNil) zNil))) zNil))) zNil))))) (zRet (zC (.bl false))) zNext)
    (zSeq (zFor (zRange1 (zCons (zOp dIx (zLst (zCons (zC (.int 6)) (zCons (zC (.int 2)) zNil))) (zCall dInt (zCons (zOp dGt (zVar 3) (zC (.int 14))) zNil))) zNil)) (zgName 8) (zIfS (zNot (zTru (zCallF 4 F__law_part (zCons (zVar 1) (zCons (zVar 5) (zCons (zVar 4) (zCons (zCallF 2 F__law_chosen (zCons (zVar 1) (zCons (zVar 6) zNil))) zNil))))))) (zRet (zC (.bl false))) zNext))
    (zSeq (zFor (zSrc (zSl (zVar 6) zNoPart (zPart (zC (.int 3))))) (zgName 9) (zIfS (zNot (zTru (zCallF 2 (F__law_alike 8) (zCons (zCallF 2 F_induced (zCons (zVar 5) (zCons (zTup (zCons (zVar 9) zNil)) zNil))) (zCons (zTup (zCons (zC (.int 1)) (zCons (zTup zNil) zNil))) zNil))))) (zRet (zC (.bl false))) zNext))
    (zRet (zCallF 2 (F__law_alike 8) (zCons (zCallF 1 F_opposite (zCons (zVar 5) zNil)) (zCons (zVar 7) zNil)))))))))))))))
noncomputable def F_law : List D → Sto → Rs D := Fof 0 N_law run_law
end K06

namespace K06
open PySem L2 Z
open PySem.Spec PyProof.Rows
variable [Tabs]

theorem eval_lowest {m : Nat} (hm : 0 < m) (S : Sto) : ∃ k, m.testBit k = true ∧ (∀ i, i < k → m.testBit i = false) ∧ F_lowest_bit [.int m] S = .ok (.int k) S := by
  obtain ⟨k, h1, h2, h3⟩ := low_int hm
  refine ⟨k, h1, h2, Fof_ret0 ?_ ?_⟩
  · simp [run_lowest_bit, h3, bits_powI]
  · trivial
theorem eval_bits {m : Nat} (hm : m < 2 ^ 64) (S : Sto) : F_bits_of [.int m] S = .ok (.lst ((bitsN 64 m).map dN)) S := by
  have loop : ∀ (l : List Nat) (fu m : Nat) (acc : List D) (x : Option D), m < 2 ^ 64 → bitsN 64 m = l → l.length < fu → acc.length + l.length ≤ 64 →
      ∃ y, whileN (zTru (zVar 0)) (zSeq (zSet 2 (zCallF 1 F_lowest_bit (zCons (zVar 0) zNil))) (zSeq (zExpr (zMethL dAppend (zVar 1) (zCons (zVar 2) zNil))) (zAug 0 dXor (zOp dShl (zC (.int 1)) (zVar 2))))) fu [some (.int m), some (.ptr S.length), x] (S ++ [.lst acc]) = .mk (.next [some (.int 0), some (.ptr S.length), y]) (S ++ [.lst (acc ++ l.map dN)]) := by
    intro l
    induction l with
    | nil =>
      intro fu m acc x hm hl hf _
      have := bitsN_zero hm hl
      subst this
      cases fu with
      | zero => simp at hf
      | succ fu => exact ⟨x, by simp [whileN]⟩
    | cons k l ih =>
      intro fu m acc x hm hl hf hb
      have h0 : 0 < m := by
        rcases Nat.eq_zero_or_pos m with e | e
        · have q : bitsN 64 0 = [] := List.filter_eq_nil_iff.mpr (by simp)
          rw [e, q] at hl; cases hl
        · exact e
      cases fu with
      | zero => simp at hf
      | succ fu =>
        obtain ⟨k', h1, h2, h3⟩ := eval_lowest h0 (S ++ [.lst acc])
        have h4 := bitsN_step hm h1 h2
        rw [hl] at h4
        obtain ⟨e1, e2⟩ := List.cons.inj h4
        subst e1
        have hk : k < 64 := (mem_bitsN.mp (by rw [hl]; exact List.mem_cons_self : k ∈ bitsN 64 m)).1
        obtain ⟨y, hy⟩ := ih fu (m - 2 ^ k) (acc ++ [dN k]) (some (.int k)) (Nat.lt_of_le_of_lt (Nat.sub_le _ _) hm) e2.symm (by simpa using hf) (by simp at hb ⊢; omega)
        refine ⟨y, ?_⟩
        have hx := bXor_bit h1
        have hne : ((m : Int) != 0) = true := by simp; omega
        have hbig : acc.length < bigN := by simp at hb; unfold bigN; omega
        rw [whileN]
        simp [hne, h3, hbig, show (k : Int) ≤ 1000000 by omega]
        rw [bXor_bitI h1]
        rw [List.append_assoc] at hy
        exact hy
  have hl : (bitsN 64 m).length ≤ 64 := by
    have := List.length_filter_le (fun i => m.testBit i) (List.range 64)
    simpa [bitsN] using this
  obtain ⟨y, hy⟩ := loop (bitsN 64 m) 100000 m [] none hm rfl (by omega) (by simpa using hl)
  refine Fof_pure (L := [.lst ((bitsN 64 m).map dN)]) (d := .ptr S.length) ?_ frz_one (cls_all fun d hd => ?_)
  · simp [run_bits_of, zWhile, hy]
  · obtain ⟨k, _, e⟩ := List.mem_map.mp hd
    subst e
    trivial
theorem loop_above {n : Nat} (xs : List D) (o nn pp : Option D) (S : Sto) : ∀ (P : List (Nat × Nat)) (u : Nat → Nat) (a b : Option D), (∀ p ∈ P, p.1 < n ∧ p.2 < 64) →
    ∃ a' b', forL ⟨xs, none⟩ (zgTup 2 (zgCons (zgName 4) (zgCons (zgName 5) zgNil))) (zAugS (zVar 1) (zVar 4) dOr (zOp dShl (zC (.int 1)) (zVar 5))) (P.map pD) [o, some (.ptr S.length), nn, pp, a, b] (S ++ [.lst (tab n u)])
      = .mk (.next [o, some (.ptr S.length), nn, pp, a', b']) (S ++ [.lst (tab n (upF P u))])
  | [], u, a, b, _ => ⟨a, b, by simp [forL, upF]⟩
  | p :: P, u, a, b, h => by
    obtain ⟨h1, h2⟩ := h p List.mem_cons_self
    obtain ⟨a', b', e⟩ := loop_above xs o nn pp S P (fun i => if i = p.1 then u p.1 ||| 2 ^ p.2 else u i) (some (dN p.1)) (some (dN p.2)) fun q hq => h q (List.mem_cons_of_mem _ hq)
    refine ⟨a', b', ?_⟩
    rw [List.map_cons, forL]
    have e1 : L2.atI (tab n u) (p.1 : Int) = some (dN (u p.1)) := atI_nat (tab_get u h1)
    have e2 : ixN n (p.1 : Int) = some p.1 := ixNn h1
    have e3 : Builtin.bitOr (u p.1 : Int) ((2 : Int) ^ p.2) = ((u p.1 ||| 2 ^ p.2 : Nat) : Int) := by rw [← bOr_nat]; simp
    have e4 : (tab n u).set p.1 (.int ((u p.1 ||| 2 ^ p.2 : Nat) : Int)) = tab n (fun i => if i = p.1 then u p.1 ||| 2 ^ p.2 else u i) := tab_set u _
    simp only [dN] at e1 e
    simp [pD, dN, e1, e2, e3, show (p.2 : Int) ≤ 1000000 by omega]
    rw [e4]
    exact e
theorem eval_above {n : Nat} {P : List (Nat × Nat)} (hn : n ≤ 64) (h : ∀ p ∈ P, p.1 < n ∧ p.2 < 64) (S : Sto) : F_masks_above [ordD n P] S = .ok (.lst (tab n (upF P fun _ => 0))) S := by
  obtain ⟨a, b, e⟩ := loop_above (P.map pD) (some (ordD n P)) (some (dN n)) (some (.tup (P.map pD))) S P (fun _ => 0) none none h
  refine Fof_pure (L := [.lst (tab n (upF P fun _ => 0))]) (d := .ptr S.length) ?_ frz_one (cls_map (fun k => clN _ _) _)
  have e0 : (List.replicate n [D.int 0]).flatten = tab n fun _ => 0 := by
    unfold tab
    refine List.ext_getElem (by simp) ?_
    intro i h1 h2
    simp [dN]
  simp [run_masks_above, ordD, dN, zFor, zSrc, srcOf, dMulC, bigN, show (n : Int) ≤ 1000000 by omega, show -1000000 ≤ (n : Int) by omega, show n ≤ 1000000 by omega, e0]
  simp [ordD, dN] at e
  simp [e]
theorem loop_below {n : Nat} (xs : List D) (o nn pp : Option D) (S : Sto) : ∀ (P : List (Nat × Nat)) (u : Nat → Nat) (a b : Option D), (∀ p ∈ P, p.1 < 64 ∧ p.2 < n) →
    ∃ a' b', forL ⟨xs, none⟩ (zgTup 2 (zgCons (zgName 4) (zgCons (zgName 5) zgNil))) (zAugS (zVar 1) (zVar 5) dOr (zOp dShl (zC (.int 1)) (zVar 4))) (P.map pD) [o, some (.ptr S.length), nn, pp, a, b] (S ++ [.lst (tab n u)])
      = .mk (.next [o, some (.ptr S.length), nn, pp, a', b']) (S ++ [.lst (tab n (upF (P.map fun p => (p.2, p.1)) u))])
  | [], u, a, b, _ => ⟨a, b, by simp [forL, upF]⟩
  | p :: P, u, a, b, h => by
    obtain ⟨h2, h1⟩ := h p List.mem_cons_self
    obtain ⟨a', b', e⟩ := loop_below xs o nn pp S P (fun i => if i = p.2 then u p.2 ||| 2 ^ p.1 else u i) (some (dN p.1)) (some (dN p.2)) fun q hq => h q (List.mem_cons_of_mem _ hq)
    refine ⟨a', b', ?_⟩
    rw [List.map_cons, forL]
    have e1 : L2.atI (tab n u) (p.2 : Int) = some (dN (u p.2)) := atI_nat (tab_get u h1)
    have e2 : ixN n (p.2 : Int) = some p.2 := ixNn h1
    have e3 : Builtin.bitOr (u p.2 : Int) ((2 : Int) ^ p.1) = ((u p.2 ||| 2 ^ p.1 : Nat) : Int) := by rw [← bOr_nat]; simp
    have e4 : (tab n u).set p.2 (.int ((u p.2 ||| 2 ^ p.1 : Nat) : Int)) = tab n (fun i => if i = p.2 then u p.2 ||| 2 ^ p.1 else u i) := tab_set u _
    simp only [dN] at e1 e
    simp [pD, dN, e1, e2, e3, show (p.1 : Int) ≤ 1000000 by omega]
    rw [e4]
    exact e
theorem eval_below {n : Nat} {P : List (Nat × Nat)} (hn : n ≤ 64) (h : ∀ p ∈ P, p.1 < 64 ∧ p.2 < n) (S : Sto) : F_masks_below [ordD n P] S = .ok (.lst (tab n (upF (P.map fun p => (p.2, p.1)) fun _ => 0))) S := by
  obtain ⟨a, b, e⟩ := loop_below (P.map pD) (some (ordD n P)) (some (dN n)) (some (.tup (P.map pD))) S P (fun _ => 0) none none h
  refine Fof_pure (L := [.lst (tab n (upF (P.map fun p => (p.2, p.1)) fun _ => 0))]) (d := .ptr S.length) ?_ frz_one (cls_map (fun k => clN _ _) _)
  have e0 : (List.replicate n [D.int 0]).flatten = tab n fun _ => 0 := by
    unfold tab
    refine List.ext_getElem (by simp) ?_
    intro i h1 h2
    simp [dN]
  simp [run_masks_below, ordD, dN, zFor, zSrc, srcOf, dMulC, bigN, show (n : Int) ≤ 1000000 by omega, show -1000000 ≤ (n : Int) by omega, show n ≤ 1000000 by omega, e0]
  simp [ordD, dN] at e
  simp [e]
theorem eval_from {n : Nat} {u : Nat → Nat} (hn : n ≤ 64) (h : ∀ x, x < n → u x < 2 ^ n) (S : Sto) : F_order_from [.lst (tab n u)] S = .ok (ordD n (canon n fun x y => (u x).testBit y)) S := by
  refine Fof_ret0 ?_ (cl_ordD _ _ _)
  have hz : (tab n u).zipIdx.map (fun p => D.tup [.int (p.2 : Nat), p.1]) = (List.range n).map fun x => D.tup [.int (x : Nat), dN (u x)] := by
    unfold tab
    refine List.ext_getElem (by simp) ?_
    intro i h1 h2
    simp
  have e : ∀ env : En, lcB ⟨(List.range n).map fun x => D.tup [.int (x : Nat), dN (u x)], none⟩ (zgTup 2 (zgCons (zgName 3) (zgCons (zgName 4) zgNil))) zYes (zSrc (zCallF 1 F_bits_of (zCons (zVar 4) zNil))) (zgName 2) zYes (zTup (zCons (zVar 3) (zCons (zVar 2) zNil))) [2] [some (.lst (tab n u)), none, none, none, none] ((List.range n).map fun x => D.tup [.int (x : Nat), dN (u x)]) [] S = .ok ((canon n fun x y => (u x).testBit y).map pD) S := by
    intro env
    rw [lcB_pure (c := 64) (w := fun x => (bitsN n (u x)).map fun y => pD (x, y)) rfl (List.range n) [] (by simp [bigN]; omega) fun x hx => ?_]
    · simp [canon, bitsN, List.map_flatMap, Function.comp_def]
    · have hx' := h x (List.mem_range.mp hx)
      have hlen : (bitsN n (u x)).length ≤ n := by
        have := List.length_filter_le (fun i => (u x).testBit i) (List.range n)
        simpa [bitsN] using this
      have eb := eval_bits (Nat.lt_of_lt_of_le hx' (Nat.pow_le_pow_right (by omega) hn)) S
      rw [bitsN_of hn hx'] at eb
      refine ⟨[some (.lst (tab n u)), none, none, some (dN x), some (dN (u x))], by simp [dN], rfl, ⟨(bitsN n (u x)).map dN, none⟩, ?_, by simp; omega, fun acc ha => ?_⟩
      · simp only [dN] at eb ⊢
        simp [zSrc, srcOf, eb]
      · rw [lcA_pure (p := fun _ => true) (v := fun y => pD (x, y)) rfl _ acc (by omega) fun y hy => ⟨[some (.lst (tab n u)), none, some (dN y), some (dN x), some (dN (u x))], by simp [wipeE], rfl, fun _ => by simp [pD, bigN]⟩]
        simp
  simp [run_order_from, zLc2K, zEnum, isTup, srcOf, hz, wipeE]
  simp [wipeE] at e
  rw [e]
  simp [Mk.res, ordD, bigN, dN]
theorem eval_size {n : Nat} (hn : n ≤ 64) (S : Sto) : F__check_size [.int n] S = .ok .non S := by
  refine Fof_next0 (env := [some (.int n)]) ?_
  simp [run__check_size, show ¬ (64 : Int) < n by omega]
theorem eval_induced {n : Nat} {P : List (Nat × Nat)} {l : List Nat} (hn : n ≤ 64) (h : ∀ p ∈ P, p.1 < n ∧ p.2 < n) (hl : ∀ x ∈ l, x < n) (hk : l.length ≤ 64) (S : Sto) :
    F_induced [ordD n P, .tup (l.map dN)] S = .ok (ordD l.length (canon l.length fun i j => decide ((ptAt l i, ptAt l j) ∈ P))) S := by
  refine Fof_ret0 ?_ (cl_ordD _ _ _)
  have h1 := eval_above hn (fun p hp => ⟨(h p hp).1, by have := (h p hp).2; omega⟩) S
  have e : lcB ⟨(List.range l.length).map dN, none⟩ (zgName 5) zYes (zSrc (zVar 3)) (zgName 6) (zTru (zOp dAnd (zOp dShr (zOp dIx (zVar 2) (zOp dIx (zVar 1) (zVar 5))) (zOp dIx (zVar 1) (zVar 6))) (zC (.int 1)))) (zTup (zCons (zVar 5) (zCons (zVar 6) zNil))) [6] [some (ordD n P), some (.tup (l.map dN)), some (.lst (tab n (upF P fun _ => 0))), some (.rng 0 (l.length : Nat)), none, none, none] ((List.range l.length).map dN) [] S
      = .ok ((canon l.length fun i j => decide ((ptAt l i, ptAt l j) ∈ P)).map pD) S := by
    rw [lcB_pure (c := 64) (w := fun i => ((List.range l.length).filter fun j => decide ((ptAt l i, ptAt l j) ∈ P)).map fun j => pD (i, j)) rfl (List.range l.length) [] (by simp [bigN]; omega) fun i hi => ?_]
    · simp [canon, List.map_flatMap, Function.comp_def]
    · have hi' := List.mem_range.mp hi
      refine ⟨_, rfl, rfl, ⟨(List.range l.length).map dN, none⟩, ?_, ?_, fun acc ha => ?_⟩
      · simp [zSrc, srcOf, show (l.length : Int) ≤ 1000000 by omega, show -1000000 ≤ (l.length : Int) by omega, rangeD_n]
      · rw [List.length_map]
        exact Nat.le_trans (List.length_filter_le _ _) (by simp; omega)
      · rw [lcA_pure (p := fun j => decide ((ptAt l i, ptAt l j) ∈ P)) (v := fun j => pD (i, j)) rfl _ acc (by simp; omega) fun j hj => ?_]
        have hj' : _ < _ := List.mem_range.mp hj
        refine ⟨_, rfl, ?_, fun _ => by simp [pD, bigN, wipeE, dN]⟩
        have a1 := ptAt_I hi'
        have a2 := ptAt_I hj'
        have a3 : L2.atI (tab n (upF P fun _ => 0)) (ptAt l i : Int) = some (dN (upF P (fun _ => 0) (ptAt l i))) := atI_nat (tab_get _ (hl _ (ptAt_mem hi')))
        have a4 := and_bit (upF P (fun _ => 0) (ptAt l i)) (ptAt l j)
        rw [upF_bit] at a4
        simp only [dN] at a1 a2 a3
        simp [wipeE, dN, a1, a2, a3]
        simpa using a4
  simp [run_induced, h1, eval_size hk, dRange1, zLc2K, zSrc, srcOf, show (l.length : Int) ≤ 1000000 by omega, show -1000000 ≤ (l.length : Int) by omega, rangeD_n]
  simp [wipeE, zSrc, srcOf] at e ⊢
  rw [e]
  simp [Mk.res, ordD, bigN, dN]
theorem eval_opposite {n : Nat} {P : List (Nat × Nat)} (hn : n ≤ 64) (h : ∀ p ∈ P, p.1 < n ∧ p.2 < n) (S : Sto) : F_opposite [ordD n P] S = .ok (ordD n (canon n fun y x => decide ((x, y) ∈ P))) S := by
  refine Fof_ret0 ?_ (cl_ordD _ _ _)
  have h1 := eval_below hn (fun p hp => ⟨by have := (h p hp).1; omega, (h p hp).2⟩) S
  have h2 := eval_from (u := upF (P.map fun p => (p.2, p.1)) fun _ => 0) hn (fun x _ => upF_lt (fun p hp => by
    obtain ⟨q, hq, e⟩ := List.mem_map.mp hp
    subst e
    exact (h q hq).1) x) S
  have h3 : canon n (fun x y => (upF (P.map fun p => (p.2, p.1)) (fun _ => 0) x).testBit y) = canon n fun y x => decide ((x, y) ∈ P) := by
    refine canon_congr fun x y _ _ => ?_
    rw [upF_bit]
    simp
    constructor
    · rintro ⟨a, b, q, e1, e2⟩
      subst e1 e2
      exact q
    · intro q
      exact ⟨y, x, q, rfl, rfl⟩
  rw [h3] at h2
  have h4 := eval_size hn S
  have a0 : L2.atI [D.int (n : Int), D.tup (P.map pD)] 0 = some (.int n) := rfl
  simp [run_opposite, ordD, dN, a0, h4]
  simp [ordD, dN] at h1 h2
  simp [h1, h2]
end K06

namespace K06
open PySem L2 Z
open PySem.Spec PyProof.Rows
variable [Tabs]

theorem eval_turned {n : Nat} {r : Nat → Nat → Bool} (hn : n ≤ 64) (S : Sto) : F__law_turned [ordD n (canon n r)] S = .ok (ordD n (canon n fun x y => r y x)) S := by
  refine Fof_ret0 ?_ (cl_ordD _ _ _)
  have hb : (canon n r).length ≤ bigN := Nat.le_trans (canon_len n r) (Nat.le_trans (Nat.mul_le_mul hn hn) (by decide))
  have a0 : L2.atI [D.int (n : Int), D.tup ((canon n r).map pD)] 0 = some (.int n) := rfl
  have a1 : L2.atI [D.int (n : Int), D.tup ((canon n r).map pD)] 1 = some (D.tup ((canon n r).map pD)) := rfl
  have e : lcA ⟨(canon n r).map pD, none⟩ (zgTup 2 (zgCons (zgName 1) (zgCons (zgName 2) zgNil))) zYes (zTup (zCons (zVar 2) (zCons (zVar 1) zNil))) [some (ordD n (canon n r)), none, none] ((canon n r).map pD) [] S = .ok (((canon n r).map fun p => toI (p.2, p.1)).map Z.pairD) S := by
    rw [lcA_pure (p := fun _ => true) (v := fun p => pD (p.2, p.1)) rfl (canon n r) [] (by simpa using hb) fun p hp => ⟨_, by simp [pD, dN]; rfl, rfl, fun _ => by simp [pD, dN, bigN]⟩]
    simp [Z.pairD, pD, toI, dN]
  simp [run__law_turned, zLcK, zSrc, srcOf, ordD, dN, a0, a1, wipeE]
  simp [ordD, dN] at e
  rw [e]
  simp only [Rs.bnd_ok, Mk.res]
  have q := pairsOf_map ((canon n r).map fun p => toI (p.2, p.1))
  have hq := sort_canon n r
  simp only [List.map_map, Function.comp_def] at q hq
  simp [dSorted, q, Function.comp_def, hq, bigN]
  intro a b _
  simp [Z.pairD, toI, pD, dN]

/-! ### drawing -/
def boxC (b0 b1 b2 b3 b4 : Int) (cs : List Int) : C := .lst [.int b0, .int b1, .int b2, .int b3, .int b4, .lst (cs.map D.int)]
def BoxOk (c : C) : Prop := ∃ b0 b1 b2 b3 b4 cs, 0 ≤ b2 ∧ c = boxC b0 b1 b2 b3 b4 cs
section
variable (a b c d e f : D)
@[simp] theorem bx0 : L2.atI [a, b, c, d, e, f] 0 = some a := rfl
@[simp] theorem bx1 : L2.atI [a, b, c, d, e, f] 1 = some b := rfl
@[simp] theorem bx2 : L2.atI [a, b, c, d, e, f] 2 = some c := rfl
@[simp] theorem bx3 : L2.atI [a, b, c, d, e, f] 3 = some d := rfl
@[simp] theorem bx4 : L2.atI [a, b, c, d, e, f] 4 = some e := rfl
@[simp] theorem bx5 : L2.atI [a, b, c, d, e, f] 5 = some f := rfl
@[simp] theorem ix0 : ixN 6 0 = some 0 := rfl
@[simp] theorem ix1 : ixN 6 1 = some 1 := rfl
@[simp] theorem ix2 : ixN 6 2 = some 2 := rfl
@[simp] theorem ix3 : ixN 6 3 = some 3 := rfl
@[simp] theorem ix4 : ixN 6 4 = some 4 := rfl
@[simp] theorem ix5 : ixN 6 5 = some 5 := rfl
end
theorem eval_mix (a s : Int) (S : Sto) : ∃ v : Int, F__law_mix [.int a, .int s] S = .ok (.int v) S := by
  have h1 : ∀ x : Int, -18446744073709551616 < x % 2147483647 := fun x => by omega
  have h2 : ∀ x : Int, x % 2147483647 < 18446744073709551616 := fun x => by omega
  have e : ∃ v : Int, run__law_mix (startE N__law_mix [.int a, .int s]) S = .mk (.ret (.int v)) S := by simp [run__law_mix, h1, h2]
  obtain ⟨v, e⟩ := e
  exact ⟨v, Fof_ret0 e trivial⟩
theorem cl_box {k : Nat} {b0 b1 b2 b3 b4 : Int} {cs : List Int} : C.cl k (boxC b0 b1 b2 b3 b4 cs) :=
  ⟨trivial, trivial, trivial, trivial, trivial, cls_map (f := D.int) (fun a => show D.cl k (.int a) from trivial) cs, trivial⟩
theorem shut_box {S : Sto} {ib : Nat} {c : C} {d : D} (hd : D.cl S.length d) (hc : C.cl S.length c) : Shut S d (S.set ib c) := by
  refine ⟨by simp, hd, fun n c' hn e => ?_⟩
  rw [List.getElem?_set] at e
  by_cases h : ib = n
  · rw [if_pos h] at e
    split at e
    · cases e; exact .inr hc
    · cases e
  · rw [if_neg h] at e
    exact .inl e
theorem Fof_box {N : List Str} {run : SM} {ds : List D} {S0 : Sto} {ib : Nat} {c : C} {d : D} (h : run (startE N ds) S0 = .mk (.ret d) (S0.set ib c)) (hd : D.cl S0.length d) (hc : C.cl S0.length c) : Fof 0 N run ds S0 = .ok d (S0.set ib c) := by
  rw [Fof_same h (by unfold frz; rfl) (shut_box hd hc)]
  exact congrArg _ (List.take_of_length_le (by simp))
theorem eval_draw {S : Sto} {ib : Nat} {c : C} (hS : S[ib]? = some c) (hc : BoxOk c) {many : Int} (h1 : 0 < many) (h2 : many < 1073741824) :
    ∃ d c', F__law_draw [.ptr ib, .int many] S = .ok (.int d) (S.set ib c') ∧ BoxOk c' ∧ 0 ≤ d ∧ d < many := by
  obtain ⟨b0, b1, b2, b3, b4, cs, hb, rfl⟩ := hc
  have hib : ib < S.length := (List.getElem?_eq_some_iff.mp hS).1
  unfold boxC at hS
  have hS2 := (List.getElem?_eq_some_iff.mp hS).2
  -- behind the first part: some box
  have part2 : ∀ (b0 b1 b2 b3 b4 : Int), 0 ≤ b2 → ∀ x : Option D, ∃ d c', zSeq (zIfS (zAnd (zB (zOp dGt (zOp dIx (zVar 0) (zC (.int 0))) (zC (.int 0)))) (zB (zOp dGt (zOp dIx (zVar 0) (zC (.int 1))) (zC (.int 0))))) (zSeq (zSet 3 (zOp dMod (zCall dInt (zCons (zOp dIx (zVar 0) (zC (.int 0))) zNil)) (zVar 1)))
    (zSeq (zPut (zVar 0) (zC (.int 0)) (zOp dDiv (zOp dIx (zVar 0) (zC (.int 0))) (zVar 1)))
    (zSeq (zPut (zVar 0) (zC (.int 1)) (zOp dSub (zOp dIx (zVar 0) (zC (.int 1))) (zC (.int 1))))
    (zRet (zVar 3))))) zNext)
    (zSeq (zPut (zVar 0) (zC (.int 3)) (zOp dAdd (zOp dIx (zVar 0) (zC (.int 3))) (zC (.int 1))))
    (zRet (zOp dMod (zCall dInt (zCons (zCallF 2 F__law_mix (zCons (zOp dIx (zVar 0) (zC (.int 4))) (zCons (zOp dIx (zVar 0) (zC (.int 3))) zNil))) zNil)) (zVar 1)))) [some (.ptr ib), some (.int many), x, none] (S.set ib (boxC b0 b1 b2 b3 b4 cs)) = .mk (.ret (.int d)) (S.set ib c') ∧ BoxOk c' ∧ 0 ≤ d ∧ d < many := by
    intro b0 b1 b2 b3 b4 hb x
    by_cases g : 0 < b0 ∧ 0 < b1
    · refine ⟨b0 % many, boxC (b0 / many) (b1 - 1) b2 b3 b4 cs, ?_, ⟨_, _, _, _, _, _, hb, rfl⟩, Int.emod_nonneg _ (by omega), Int.emod_lt_of_pos _ h1⟩
      simp [boxC, hib, List.getElem?_set, g.1, g.2, h1, h2]
    · obtain ⟨v, hv⟩ := eval_mix b4 (b3 + 1) (S.set ib (boxC b0 b1 b2 (b3 + 1) b4 cs))
      refine ⟨v % many, boxC b0 b1 b2 (b3 + 1) b4 cs, ?_, ⟨_, _, _, _, _, _, hb, rfl⟩, Int.emod_nonneg _ (by omega), Int.emod_lt_of_pos _ h1⟩
      simp only [boxC] at hv
      by_cases g0 : 0 < b0
      · have g1 : ¬ 0 < b1 := fun h => g ⟨g0, h⟩
        simp [boxC, hib, List.getElem?_set, g0, g1, h1, hv]
      · simp [boxC, hib, List.getElem?_set, g0, h1, hv]
  have fin : ∀ {d : Int} {c' : C}, run__law_draw (startE N__law_draw [.ptr ib, .int many]) S = .mk (.ret (.int d)) (S.set ib c') → BoxOk c' → F__law_draw [.ptr ib, .int many] S = .ok (.int d) (S.set ib c') := fun h ⟨_, _, _, _, _, _, _, e⟩ => Fof_box h trivial (by rw [e]; exact cl_box)
  by_cases g : (b0 = 0 ∨ b1 = 0) ∧ b2 < cs.length
  · obtain ⟨g1, g2⟩ := g
    obtain ⟨k, rfl⟩ := Int.eq_ofNat_of_zero_le hb
    have hk : k < cs.length := by omega
    have a1 : L2.atI (cs.map D.int) (k : Int) = some (.int cs[k]) := atI_nat (by simp [hk])
    obtain ⟨d, c', h3, h4, h5⟩ := part2 (if cs[k] % 2 = 0 then (if cs[k] < 0 then -cs[k] else cs[k]) / 2 else 0) 60 (k + 1) b3 ((b4 * 31 + cs[k]) % 2147483647) (by omega) (some (.int cs[k]))
    refine ⟨d, c', fin ?_ h4, h4, h5⟩
    rw [run__law_draw, zSeq]
    clear part2 fin
    refine Eq.trans (congrArg (fun r => Ss.seq r _) (?_ : _ = Ss.mk (.next [some (.ptr ib), some (.int many), some (.int cs[k]), none]) (S.set ib (boxC (if cs[k] % 2 = 0 then (if cs[k] < 0 then -cs[k] else cs[k]) / 2 else 0) 60 (k + 1) b3 ((b4 * 31 + cs[k]) % 2147483647) cs)))) h3
    clear h3
    by_cases g3 : cs[k] % 2 = 0
    · rcases g1 with e | e
      · subst e
        simp [boxC, hib, List.getElem?_set, hS2, a1, hk, g3]
      · subst e
        by_cases g4 : b0 = 0
        · simp [boxC, hib, List.getElem?_set, hS2, a1, hk, g3, g4]
        · simp [boxC, hib, List.getElem?_set, hS2, a1, hk, g3, g4]
    · rcases g1 with e | e
      · subst e
        simp [boxC, hib, List.getElem?_set, hS2, a1, hk, g3]
      · subst e
        by_cases g4 : b0 = 0
        · simp [boxC, hib, List.getElem?_set, hS2, a1, hk, g3, g4]
        · simp [boxC, hib, List.getElem?_set, hS2, a1, hk, g3, g4]
  · obtain ⟨d, c', h3, h4, h5⟩ := part2 b0 b1 b2 b3 b4 hb none
    refine ⟨d, c', fin ?_ h4, h4, h5⟩
    rw [run__law_draw, zSeq]
    clear part2 fin
    refine Eq.trans (congrArg (fun r => Ss.seq r _) (?_ : _ = Ss.mk (.next [some (.ptr ib), some (.int many), none, none]) (S.set ib (boxC b0 b1 b2 b3 b4 cs)))) h3
    have hS' : S.set ib (boxC b0 b1 b2 b3 b4 cs) = S := by
      apply List.ext_getElem? 
      intro n
      rw [List.getElem?_set]
      by_cases e : ib = n
      · subst e; simp [hib, hS2, boxC]
      · simp [e]
    rw [hS']
    by_cases g4 : b0 = 0
    · have g5 : ¬ b2 < cs.length := fun h => g ⟨.inl g4, h⟩
      simp [boxC, hib, hS2, g4, g5]
    · by_cases g6 : b1 = 0
      · have g5 : ¬ b2 < cs.length := fun h => g ⟨.inr g6, h⟩
        simp [boxC, hib, hS2, g4, g5, g6]
      · simp [boxC, hib, hS2, g4, g6]

/-! ### alike: of equal data -/
@[simp] theorem isiT : (["tuple", "list"].any (subT "tuple")) = true := by decide +kernel
@[simp] theorem isiL : (["tuple", "list"].any (subT "list")) = true := by decide +kernel
@[simp] theorem isiI : (["tuple", "list"].any (subT "int")) = false := by decide +kernel
@[simp] theorem isiB : (["tuple", "list"].any (subT "bool")) = false := by decide +kernel
@[simp] theorem isiN : (["tuple", "list"].any (subT "NoneType")) = false := by decide +kernel
@[simp] theorem isT1 : subT "tuple" "tuple" = true := by decide +kernel
@[simp] theorem isT2 : subT "list" "tuple" = false := by decide +kernel
@[simp] theorem isT3 : subT "tuple" "list" = false := by decide +kernel
@[simp] theorem isT4 : subT "list" "list" = true := by decide +kernel
@[simp] theorem isB1 : subT "int" "bool" = false := by decide +kernel
@[simp] theorem isB2 : subT "bool" "bool" = true := by decide +kernel
@[simp] theorem isS1 : subT "int" "str" = false := by decide +kernel
@[simp] theorem isI1 : subT "int" "int" = true := by decide +kernel
@[simp] theorem isX0 : subT "int" "tuple" = false := by decide +kernel
@[simp] theorem isX1 : subT "int" "list" = false := by decide +kernel
@[simp] theorem isX2 : subT "bool" "tuple" = false := by decide +kernel
@[simp] theorem isX3 : subT "bool" "list" = false := by decide +kernel
@[simp] theorem isX4 : subT "NoneType" "tuple" = false := by decide +kernel
@[simp] theorem isX5 : subT "NoneType" "list" = false := by decide +kernel
theorem alike_loop {F : List D → Sto → Rs D} {S : Sto} {ds : List D} {t : D} (ht : t = .tup ds ∨ t = .lst ds) (h : ∀ d ∈ ds, F [d, d] S = .ok (.bl true) S) (xs : List D) : ∀ (L : List Nat) (x : Option D), (∀ i ∈ L, i < ds.length) →
    ∃ x', forL ⟨xs, none⟩ (zgName 2) (zIfS (zNot (zTru (zCallF 2 F (zCons (zOp dIx (zVar 0) (zVar 2)) (zCons (zOp dIx (zVar 1) (zVar 2)) zNil))))) (zRet (zC (.bl false))) zNext) (L.map dN) [some t, some t, x] S = .mk (.next [some t, some t, x']) S
  | [], x, _ => ⟨x, by simp [forL]⟩
  | i :: L, x, hL => by
    obtain ⟨x', e⟩ := alike_loop ht h xs L (some (dN i)) fun j hj => hL j (List.mem_cons_of_mem _ hj)
    refine ⟨x', ?_⟩
    have hi := hL i List.mem_cons_self
    have a1 : L2.atI ds (i : Int) = some ds[i] := atI_nat (by simp [hi])
    have a2 := h ds[i] (List.getElem_mem hi)
    rw [List.map_cons, forL]
    simp only [dN] at e
    rcases ht with q | q <;> subst q <;> simp [dN, a1, a2] <;> exact e
theorem eval_alike : ∀ (k : Nat) (d : D) (S : Sto), Dat k d → F__law_alike k [d, d] S = .ok (.bl true) S
  | 0, _, _, h => h.elim
  | k + 1, d, S, h => by
    unfold F__law_alike
    refine Fof_ret0 (d := .bl true) ?_ trivial
    cases d with
    | tup ds =>
      obtain ⟨h1, h2⟩ := h
      obtain ⟨x', e⟩ := alike_loop (t := .tup ds) (S := S) (.inl rfl) (fun d hd => eval_alike k d S (h2 d hd)) ((List.range ds.length).map dN) (List.range ds.length) none fun i hi => List.mem_range.mp hi
      simp [run__law_alike, zIsi, tyD, zFor, zRange1, show (ds.length : Int) ≤ 1000000 by omega, show -1000000 ≤ (ds.length : Int) by omega, rangeD_n, e]
    | lst ds =>
      obtain ⟨h1, h2⟩ := h
      obtain ⟨x', e⟩ := alike_loop (t := .lst ds) (S := S) (.inr rfl) (fun d hd => eval_alike k d S (h2 d hd)) ((List.range ds.length).map dN) (List.range ds.length) none fun i hi => List.mem_range.mp hi
      simp [run__law_alike, zIsi, tyD, zFor, zRange1, show (ds.length : Int) ≤ 1000000 by omega, show -1000000 ≤ (ds.length : Int) by omega, rangeD_n, e]
    | int i => simp [run__law_alike, zIsi, tyD]
    | non => simp [run__law_alike, zIsi, tyD]
    | bl b => simp [run__law_alike, zIsi, tyD]
    | _ => exact h.elim
end K06

namespace K06
open PySem L2 Z
open PySem.Spec PyProof.Rows
variable [Tabs]

theorem eval_box {ns : List Int} (h : ns.length ≤ bigN) (S : Sto) : F__law_box [.rol ns] S = .ok (.ptr S.length) (S ++ [boxC 0 0 0 0 1 ns]) := by
  refine Fof_grow ?_ (Nat.lt_irrefl _)
  have e : lcA ⟨ns.map D.int, none⟩ (zgName 1) zYes (zCall dInt (zCons (zVar 1) zNil)) [some (.rol ns), none] (ns.map D.int) [] S = .ok (ns.map D.int) S := by
    rw [lcA_pure (p := fun _ => true) (v := D.int) rfl ns [] (by simpa using h) fun a _ => ⟨_, rfl, rfl, fun _ => by simp⟩]
    simp
  simp [run__law_box, zLcK, zSrc, srcOf, wipeE, e, Mk.res, boxC, bigN]
theorem draw_in {S : Sto} {ib : Nat} {c : C} (hib : ib < S.length) (hc : BoxOk c) {many : Int} (h1 : 0 < many) (h2 : many < 1073741824) (L : Sto) :
    ∃ d c', F__law_draw [.ptr ib, .int many] (S.set ib c ++ L) = .ok (.int d) (S.set ib c' ++ L) ∧ BoxOk c' ∧ 0 ≤ d ∧ d < many := by
  obtain ⟨d, c', h3, h4⟩ := eval_draw (S := S.set ib c ++ L) (ib := ib) (by rw [List.getElem?_append_left (by simpa using hib)]; simp [hib]) hc h1 h2
  refine ⟨d, c', ?_, h4⟩
  rw [h3, List.set_append_left _ _ (by simpa using hib), List.set_set]
theorem draw_at {S : Sto} {ib : Nat} {c : C} (hib : ib < S.length) (hc : BoxOk c) {many : Int} (h1 : 0 < many) (h2 : many < 1073741824) :
    ∃ (d : Nat) (c' : C), F__law_draw [.ptr ib, .int many] (S.set ib c) = .ok (.int d) (S.set ib c') ∧ BoxOk c' ∧ (d : Int) < many := by
  obtain ⟨d, c', h3, h4, h5, h6⟩ := draw_in hib hc h1 h2 []
  rw [List.append_nil, List.append_nil] at h3
  obtain ⟨k, rfl⟩ := Int.eq_ofNat_of_zero_le h5
  exact ⟨k, c', h3, h4, h6⟩
theorem line_loop {S : Sto} {ib : Nat} (hib : ib < S.length) (n0 : Option D) (xs : List D) : ∀ (items : List D) (lf : List Nat) (acc : List D) (c : C), BoxOk c → items.length = lf.length → acc.length + lf.length ≤ 64 →
    ∃ (l : List Nat) (c' : C), l.Perm lf ∧ BoxOk c' ∧ lcA ⟨xs, none⟩ (zgName 3) zYes (zMethL dPopAt (zVar 2) (zCons (zCallF 2 F__law_draw (zCons (zVar 0) (zCons (zCall dLen (zCons (zVar 2) zNil)) zNil))) zNil)) [some (.ptr ib), n0, some (.ptr S.length), none] items acc (S.set ib c ++ [.lst (lf.map dN)]) = .ok (acc ++ l.map dN) (S.set ib c' ++ [.lst []])
  | [], lf, acc, c, hc, hl, _ => by
    have : lf = [] := List.length_eq_zero_iff.mp hl.symm
    subst this
    exact ⟨[], c, .refl _, hc, by simp [lcA]⟩
  | it :: items, lf, acc, c, hc, hl, hb => by
    have hpos : 0 < lf.length := by rw [← hl]; simp
    obtain ⟨d, c1, h1, h2, h3, h4⟩ := draw_in hib hc (many := (lf.length : Int)) (by omega) (by omega) [.lst (lf.map dN)]
    obtain ⟨j, rfl⟩ := Int.eq_ofNat_of_zero_le h3
    have hj : j < lf.length := by omega
    obtain ⟨l, c', h5, h6, h7⟩ := line_loop hib n0 xs items (lf.eraseIdx j) (acc ++ [dN lf[j]]) c1 h2 (by rw [List.length_eraseIdx_of_lt hj]; simp at hl; omega) (by rw [List.length_eraseIdx_of_lt hj]; simp; omega)
    refine ⟨lf[j] :: l, c', ((h5.cons _).trans (perm_erase hj)), h6, ?_⟩
    have a1 := ixNn hj
    have e1 : (S.set ib c1).length = S.length := by simp
    have e2 : (S.set ib c).length = S.length := by simp
    have hacc : acc.length < bigN := by unfold bigN; omega
    rw [lcA]
    rw [List.append_assoc] at h7
    simp [zYes, h1, e1, e2, a1, hj, show (j : Int) ≤ 1000000 by omega, show -1000000 ≤ (j : Int) by omega, hacc, List.getElem?_append_right]
    rw [erase_map]
    exact h7
theorem eval_line {S : Sto} {ib : Nat} {c : C} (hib : ib < S.length) (hc : BoxOk c) {n : Nat} (hn : n ≤ 64) :
    ∃ (l : List Nat) (c' : C), l.Perm (List.range n) ∧ BoxOk c' ∧ F__law_line [.ptr ib, .int n] (S.set ib c) = .ok (.lst (l.map dN)) (S.set ib c') := by
  obtain ⟨l, c', h1, h2, h3⟩ := line_loop hib (some (dN n)) ((List.range n).map dN) ((List.range n).map dN) (List.range n) [] c hc (by simp) (by simpa using hn)
  refine ⟨l, c', h1, h2, ?_⟩
  have e : lcA ⟨(List.range n).map dN, none⟩ (zgName 3) zYes (zVar 3) [some (.ptr ib), some (dN n), none, none] ((List.range n).map dN) [] (S.set ib c) = .ok ((List.range n).map dN) (S.set ib c) := by
    rw [lcA_pure (p := fun _ => true) (v := dN) rfl (List.range n) [] (by simp [bigN]; omega) fun a _ => ⟨_, rfl, rfl, fun _ => by simp⟩]
    simp
  have e1 : (S.set ib c).length = S.length := by simp
  obtain ⟨_, _, _, _, _, _, _, e2⟩ := id h2
  have := Fof_boxL (N := N__law_line) (run := run__law_line) (ds := [.ptr ib, .int n]) (S0 := S.set ib c) (L := [.lst []]) (ib := ib) (c := c') (d := .lst (l.map dN)) ?_ (cl_D_N _ _) (by rw [e2]; exact cl_box)
  · rw [List.set_set] at this
    exact this
  · simp only [List.map_nil, List.nil_append, dN] at h3 e
    rw [List.set_set]
    simp [run__law_line, zLcK, zRange1, wipeE, show (n : Int) ≤ 1000000 by omega, show -1000000 ≤ (n : Int) by omega, rangeD_n, dN, e, Mk.res, h3]
theorem Fof_boxS {N : List Str} {run : SM} {ds : List D} {S : Sto} {ib : Nat} {c c' : C} {d : D} (h : run (startE N ds) (S.set ib c) = .mk (.ret d) (S.set ib c')) (hd : D.cl S.length d) (hc : BoxOk c') : Fof 0 N run ds (S.set ib c) = .ok d (S.set ib c') := by
  obtain ⟨_, _, _, _, _, _, _, e⟩ := hc
  have := Fof_box (N := N) (run := run) (ds := ds) (S0 := S.set ib c) (ib := ib) (c := c') (d := d) (by rw [List.set_set]; exact h) (by simpa using hd) (by rw [e]; exact cl_box)
  rw [List.set_set] at this
  exact this
theorem Fof_boxSL {N : List Str} {run : SM} {ds : List D} {S L : Sto} {ib : Nat} {c c' : C} {d : D} (h : run (startE N ds) (S.set ib c) = .mk (.ret d) (S.set ib c' ++ L)) (hd : D.cl S.length d) (hc : BoxOk c') : Fof 0 N run ds (S.set ib c) = .ok d (S.set ib c') := by
  obtain ⟨_, _, _, _, _, _, _, e⟩ := hc
  have := Fof_boxL (N := N) (run := run) (ds := ds) (S0 := S.set ib c) (L := L) (ib := ib) (c := c') (d := d) (by rw [List.set_set]; exact h) (by simpa using hd) (by rw [e]; exact cl_box)
  rw [List.set_set] at this
  exact this
theorem eval_lsize {S : Sto} {ib : Nat} {c : C} (hib : ib < S.length) (hc : BoxOk c) :
    ∃ (n : Nat) (c' : C), n ≤ 64 ∧ BoxOk c' ∧ F__law_size [.ptr ib] (S.set ib c) = .ok (.int n) (S.set ib c') := by
  obtain ⟨k, c1, h1, h2, h3⟩ := draw_at hib hc (many := 16) (by decide) (by decide)
  by_cases g1 : (k : Int) < 9
  · have g3 : k % 3 = 0 ∨ k % 3 = 1 ∨ k % 3 = 2 := by omega
    rcases g3 with g3 | g3 | g3
    · obtain ⟨n, c2, h4, h5, h6⟩ := draw_at hib h2 (many := 4) (by decide) (by decide)
      exact ⟨n, c2, by omega, h5, Fof_boxS (by simp [run__law_size, h1, g1, show (k : Int) % 3 = 0 by omega, h4, bigN]) trivial h5⟩
    · obtain ⟨n, c2, h4, h5, h6⟩ := draw_at hib h2 (many := 7) (by decide) (by decide)
      exact ⟨n, c2, by omega, h5, Fof_boxS (by simp [run__law_size, h1, g1, show (k : Int) % 3 = 1 by omega, h4, bigN]) trivial h5⟩
    · obtain ⟨n, c2, h4, h5, h6⟩ := draw_at hib h2 (many := 9) (by decide) (by decide)
      exact ⟨n, c2, by omega, h5, Fof_boxS (by simp [run__law_size, h1, g1, show (k : Int) % 3 = 2 by omega, h4, bigN]) trivial h5⟩
  · by_cases g2 : (k : Int) < 14
    · obtain ⟨n, c2, h4, h5, h6⟩ := draw_at hib h2 (many := 11) (by decide) (by decide)
      exact ⟨4 + n, c2, by omega, h5, Fof_boxS (by simp [run__law_size, h1, g1, g2, h4, bigN]) trivial h5⟩
    · obtain ⟨n, c2, h4, h5, h6⟩ := draw_at hib h2 (many := 50) (by decide) (by decide)
      have g3 : k % 2 = 0 ∨ k % 2 = 1 := by omega
      rcases g3 with g3 | g3
      · exact ⟨15 + n, c2, by omega, h5, Fof_boxS (by simp [run__law_size, h1, g1, g2, h4, bigN, show (k : Int) % 2 = 0 by omega]) trivial h5⟩
      · exact ⟨64, c2, by omega, h5, Fof_boxS (by simp [run__law_size, h1, g1, g2, h4, bigN, show (k : Int) % 2 = 1 by omega]) trivial h5⟩
theorem eval_chosen {S : Sto} {ib : Nat} {c : C} (hib : ib < S.length) (hc : BoxOk c) {pts : List Nat} (hp : pts.length ≤ 64) :
    ∃ (l : List Nat) (c' : C), l.length ≤ pts.length ∧ (∀ x ∈ l, x ∈ pts) ∧ BoxOk c' ∧ F__law_chosen [.ptr ib, .lst (pts.map dN)] (S.set ib c) = .ok (.lst (l.map dN)) (S.set ib c') := by
  obtain ⟨k, c1, h1, h2, h3⟩ := draw_at hib hc (many := 3) (by decide) (by decide)
  obtain ⟨f, c2, h4, h5, h6⟩ := draw_at hib h2 (many := 2) (by decide) (by decide)
  have loop : ∀ sh : Int, 0 < sh → sh < 100 → ∀ fb : Bool, ∃ (l : List Nat) (c' : C), l.length ≤ pts.length ∧ (∀ x ∈ l, x ∈ pts) ∧ BoxOk c' ∧
      lcA ⟨pts.map dN, none⟩ (zgName 4) (zB (zOp dEq (zOp dEq (zCallF 2 F__law_draw (zCons (zVar 0) (zCons (zVar 2) zNil))) (zC (.int 0))) (zVar 3))) (zVar 4) [some (.ptr ib), some (.lst (pts.map dN)), some (.int sh), some (.bl fb), none] (pts.map dN) [] (S.set ib c2) = .ok (l.map dN) (S.set ib c') := by
    intro sh hs hs2 fb
    obtain ⟨acc, S', e1, l, c', e2, e3, h7, h8, h9⟩ := lcA_ind (s := ⟨pts.map dN, none⟩) (g := zgName 4) (ft := zB (zOp dEq (zOp dEq (zCallF 2 F__law_draw (zCons (zVar 0) (zCons (zVar 2) zNil))) (zC (.int 0))) (zVar 3))) (fe := zVar 4) (env := [some (.ptr ib), some (.lst (pts.map dN)), some (.int sh), some (.bl fb), none])
      (fun i acc T => ∃ (l : List Nat) (c' : C), acc = l.map dN ∧ T = S.set ib c' ∧ BoxOk c' ∧ l.length ≤ i ∧ ∀ x ∈ l, x ∈ pts) (pts.map dN) 0 [] (S.set ib c2) ⟨[], c2, rfl, rfl, h5, Nat.le_refl _, by simp⟩ (fun _ _ _ _ => rfl) (by
        rintro i d acc T hi ⟨l, c3, rfl, rfl, q1, q2, q3⟩
        rw [List.getElem?_map] at hi
        cases hx : pts[i]? with
        | none => rw [hx] at hi; cases hi
        | some x =>
          rw [hx] at hi
          cases hi
          have hlt := (List.getElem?_eq_some_iff.mp hx).1
          obtain ⟨v, c4, q4, q5, q6⟩ := draw_at hib q1 hs (by omega)
          refine ⟨_, _, S.set ib c4, rfl, by simp [q4]; rfl, fun _ => ⟨l, c4, rfl, rfl, q5, by omega, q3⟩, fun _ => ⟨dN x, _, by simp, by simp [bigN]; omega, l ++ [x], c4, by simp, rfl, q5, by simp; omega, fun y hy => ?_⟩⟩
          rcases List.mem_append.mp hy with e | e
          · exact q3 y e
          · simp at e
            subst e
            exact List.mem_of_getElem? hx)
    rw [e2, e3] at e1
    exact ⟨l, c', by simpa using h8, h9, h7, e1⟩
  have g3 : (k = 0 ∨ k = 1) ∨ k = 2 := by omega
  have cs : ∀ sh : Int, 0 < sh → sh < 100 → L2.atI [D.int 2, D.int 4, D.int 4] (k : Int) = some (.int sh) → ∃ (l : List Nat) (c' : C), l.length ≤ pts.length ∧ (∀ x ∈ l, x ∈ pts) ∧ BoxOk c' ∧ F__law_chosen [.ptr ib, .lst (pts.map dN)] (S.set ib c) = .ok (.lst (l.map dN)) (S.set ib c') := by
    intro sh hs hs2 ha
    obtain ⟨l, c', q1, q2, q3, q4⟩ := loop sh hs hs2 (decide (f = 0))
    refine ⟨l, c', q1, q2, q3, Fof_boxS ?_ (cl_D_N _ _) q3⟩
    simp [run__law_chosen, h1, ha, h4, bigN, zLcK, zSrc, srcOf, wipeE, q4, Mk.res]
  rcases g3 with (e | e) | e
  · subst e; exact cs 2 (by decide) (by decide) rfl
  · subst e; exact cs 4 (by decide) (by decide) rfl
  · subst e; exact cs 4 (by decide) (by decide) rfl
end K06

namespace K06
open PySem L2 Z
open PySem.Spec PyProof.Rows
variable [Tabs]
noncomputable def pl6 : SM := zIfS (zAnd (zB (zOp dEq (zVar 2) (zC (.int 5)))) (zB (zOp dGt (zCallF 2 F__law_draw (zCons (zVar 0) (zCons (zC (.int 12)) zNil))) (zC (.int 0))))) (zSet 6 (zLst (zCons (zOp dSub (zVar 5) (zC (.int 1))) zNil))) zNext
noncomputable def pl5 : SM := zIfS (zAnd (zB (zOp dEq (zVar 2) (zC (.int 4)))) (zB (zOp dGt (zCallF 2 F__law_draw (zCons (zVar 0) (zCons (zC (.int 3)) zNil))) (zC (.int 0))))) (zSet 6 (zLcK .frz [8] (zRange1 (zCons (zC (.int 2)) zNil)) (zgName 8) zYes (zOp dSub (zOp dSub (zVar 5) (zC (.int 1))) (zCallF 2 F__law_draw (zCons (zVar 0) (zCons (zCall dMin2 (zCons (zVar 5) (zCons (zC (.int 3)) zNil))) zNil)))))) pl6
noncomputable def pl4 : SM := zIfS (zB (zOp dEq (zVar 2) (zC (.int 3)))) (zSet 6 (zLst (zCons (zCallF 2 F__law_draw (zCons (zVar 0) (zCons (zVar 5) zNil))) zNil))) pl5
noncomputable def pl3 : SM := zIfS (zB (zOp dLt (zVar 2) (zC (.int 3)))) (zSet 6 (zLcK .frz [8] (zRange1 (zCons (zCallF 2 F__law_draw (zCons (zVar 0) (zCons (zC (.int 4)) zNil))) zNil)) (zgName 8) zYes (zCallF 2 F__law_draw (zCons (zVar 0) (zCons (zVar 5) zNil))))) pl4
noncomputable def pl2 : SM := zIfS (zAnd (zB (zOp dLt (zVar 2) (zC (.int 2)))) (zB (zOp dLt (zCall dLen (zCons (zVar 1) zNil)) (zC (.int 33))))) (zSet 6 (zLcK .frz [7] (zRange1 (zCons (zOp dMul (zVar 3) (zCall dInt (zCons (zOp dGe (zVar 5) (zVar 3)) zNil))) zNil)) (zgName 7) (zB (zOp dEq (zCallF 2 F__law_draw (zCons (zVar 0) (zCons (zC (.int 2)) zNil))) (zC (.int 0)))) (zVar 7))) pl3
noncomputable def pl1 : SM := zIfS (zAnd (zB (zOp dLt (zVar 2) (zC (.int 2)))) (zB (zOp dLt (zCall dLen (zCons (zVar 1) zNil)) (zC (.int 10))))) (zSet 6 (zLcK .frz [7] (zRange1 (zCons (zVar 5) zNil)) (zgName 7) (zB (zOp dEq (zCallF 2 F__law_draw (zCons (zVar 0) (zCons (zC (.int 2)) zNil))) (zC (.int 0)))) (zVar 7))) pl2

theorem filt_loop {S : Sto} {ib : Nat} {c : C} (hib : ib < S.length) (hc : BoxOk c) (a1 a2 a3 a4 a5 a6 a8 : Option D) (m : Nat) :
    ∃ (l : List Nat) (c' : C), l.length ≤ m ∧ (∀ x ∈ l, x < m) ∧ BoxOk c' ∧ (m ≤ 1000 → lcA ⟨(List.range m).map dN, none⟩ (zgName 7) (zB (zOp dEq (zCallF 2 F__law_draw (zCons (zVar 0) (zCons (zC (.int 2)) zNil))) (zC (.int 0)))) (zVar 7) [some (.ptr ib), a1, a2, a3, a4, a5, a6, none, a8] ((List.range m).map dN) [] (S.set ib c) = .ok (l.map dN) (S.set ib c')) := by
  by_cases hm : m ≤ 1000
  · obtain ⟨acc, S', e1, l, c', e2, e3, h7, h8, h9⟩ := lcA_ind (s := ⟨(List.range m).map dN, none⟩) (g := zgName 7) (ft := zB (zOp dEq (zCallF 2 F__law_draw (zCons (zVar 0) (zCons (zC (.int 2)) zNil))) (zC (.int 0)))) (fe := zVar 7) (env := [some (.ptr ib), a1, a2, a3, a4, a5, a6, none, a8])
      (fun i acc T => ∃ (l : List Nat) (c' : C), acc = l.map dN ∧ T = S.set ib c' ∧ BoxOk c' ∧ l.length ≤ i ∧ ∀ x ∈ l, x < m) ((List.range m).map dN) 0 [] (S.set ib c) ⟨[], c, rfl, rfl, hc, Nat.le_refl _, by simp⟩ (fun _ _ _ _ => rfl) (by
        rintro i d acc T hi ⟨l, c3, rfl, rfl, q1, q2, q3⟩
        have hlt : i < m := by simpa using (List.getElem?_eq_some_iff.mp hi).1
        rw [List.getElem?_map, List.getElem?_range hlt] at hi
        cases hi
        obtain ⟨v, c4, q4, q5, q6⟩ := draw_at hib q1 (many := 2) (by decide) (by decide)
        refine ⟨_, _, S.set ib c4, rfl, by simp [q4]; rfl, fun _ => ⟨l, c4, rfl, rfl, q5, by omega, q3⟩, fun _ => ⟨dN i, _, by simp, by simp [bigN]; omega, l ++ [i], c4, by simp, rfl, q5, by simp; omega, fun y hy => ?_⟩⟩
        rcases List.mem_append.mp hy with e | e
        · exact q3 y e
        · simp at e
          omega)
    rw [e2, e3] at e1
    exact ⟨l, c', by simpa using h8, h9, h7, fun _ => e1⟩
  · exact ⟨[], c, by simp, by simp, hc, fun h => absurd h hm⟩
theorem turn_loop {S : Sto} {ib : Nat} {c : C} (hib : ib < S.length) (hc : BoxOk c) (a1 a2 a3 a4 a6 a7 : Option D) {k : Nat} (hk : 0 < k) (hk2 : k ≤ 64) (fe : EM D)
    (hfe : ∀ (x : Option D) (c : C), BoxOk c → ∃ (v : Nat) (c' : C), fe [some (.ptr ib), a1, a2, a3, a4, some (dN k), a6, a7, x] (S.set ib c) = .ok (dN v) (S.set ib c') ∧ v < k ∧ BoxOk c') (m : Nat) (hm : m ≤ 60) :
    ∃ (l : List Nat) (c' : C), l.length ≤ 64 ∧ (∀ x ∈ l, x < k) ∧ BoxOk c' ∧ lcA ⟨(List.range m).map dN, none⟩ (zgName 8) zYes fe [some (.ptr ib), a1, a2, a3, a4, some (dN k), a6, a7, none] ((List.range m).map dN) [] (S.set ib c) = .ok (l.map dN) (S.set ib c') := by
  obtain ⟨acc, S', e1, l, c', e2, e3, h7, h8, h9⟩ := lcA_ind (s := ⟨(List.range m).map dN, none⟩) (g := zgName 8) (ft := zYes) (fe := fe) (env := [some (.ptr ib), a1, a2, a3, a4, some (dN k), a6, a7, none])
      (fun i acc T => ∃ (l : List Nat) (c' : C), acc = l.map dN ∧ T = S.set ib c' ∧ BoxOk c' ∧ l.length ≤ i ∧ ∀ x ∈ l, x < k) ((List.range m).map dN) 0 [] (S.set ib c) ⟨[], c, rfl, rfl, hc, Nat.le_refl _, by simp⟩ (fun _ _ _ _ => rfl) (by
        rintro i d acc T hi ⟨l, c3, rfl, rfl, q1, q2, q3⟩
        have hlt : i < m := by simpa using (List.getElem?_eq_some_iff.mp hi).1
        obtain ⟨v, c4, q4, q5, q6⟩ := hfe (some d) c3 q1
        refine ⟨_, _, _, rfl, rfl, fun h => (by cases h), fun _ => ⟨_, _, q4, by simp [bigN]; omega, l ++ [v], c4, by simp, rfl, q6, by simp; omega, fun y hy => ?_⟩⟩
        rcases List.mem_append.mp hy with e | e
        · exact q3 y e
        · simp at e
          omega)
  rw [e2, e3] at e1
  exact ⟨l, c', by simp at h8; omega, h9, h7, e1⟩
def pe (ib : Nat) (ln : List Nat) (kd : Nat) (lk : Option D) (k : Nat) (l : List Nat) : En := [some (.ptr ib), some (.lst (ln.map dN)), some (.int kd), some (.int ((ln.length : Int) / 2)), lk, some (dN k), some (.lst (l.map dN)), none, none]
def PlRes (S : Sto) (ib : Nat) (c : C) (ln : List Nat) (kd : Nat) (lk : Option D) (k : Nat) (m : SM) : Prop :=
  ∃ (l : List Nat) (c' : C), l.length ≤ 64 ∧ (∀ x ∈ l, x < k) ∧ BoxOk c' ∧ m (pe ib ln kd lk k []) (S.set ib c) = .mk (.next (pe ib ln kd lk k l)) (S.set ib c')
section
variable {S : Sto} {ib : Nat} {c : C} (hib : ib < S.length) (hc : BoxOk c) {ln : List Nat} {kd k : Nat} {lk : Option D} (hk : 0 < k) (hk2 : k < ln.length) (hl : ln.length ≤ 64) (hkd : kd < 6)
include hib hc hk hk2 hl hkd
omit hib hc hk hk2 hl hkd in
theorem PlRes.of {c1 : C} {a b : SM} {cc : EM Bool} (h : cc (pe ib ln kd lk k []) (S.set ib c) = .ok false (S.set ib c1)) (r : PlRes S ib c1 ln kd lk k b) : PlRes S ib c ln kd lk k (zIfS cc a b) := by
  obtain ⟨l, c', h1, h2, h3, h4⟩ := r
  exact ⟨l, c', h1, h2, h3, if_f h h4⟩
omit hib hk hk2 hl hkd in
theorem pl_next : PlRes S ib c ln kd lk k zNext := ⟨[], c, by simp, by simp, hc, rfl⟩
theorem pl6_ok : PlRes S ib c ln kd lk k pl6 := by
  unfold pl6
  by_cases g : kd = 5
  · subst g
    obtain ⟨d, c1, h1, h2, h3⟩ := draw_at hib hc (many := 12) (by decide) (by decide)
    by_cases g2 : d = 0
    · subst g2
      exact PlRes.of (c1 := c1) (by simp [pe, h1]) (pl_next h2)
    · refine ⟨[k - 1], c1, by simp, by simp; omega, h2, if_t (S' := S.set ib c1) (by simp [pe, h1]; omega) ?_⟩
      simp [pe, dN, bigN]
      omega
  · exact PlRes.of (c1 := c) (by simp [pe]; omega) (pl_next hc)
theorem pl5_ok : PlRes S ib c ln kd lk k pl5 := by
  unfold pl5
  by_cases g : kd = 4
  · subst g
    obtain ⟨d, c1, h1, h2, h3⟩ := draw_at hib hc (many := 3) (by decide) (by decide)
    by_cases g2 : d = 0
    · subst g2
      exact PlRes.of (c1 := c1) (by simp [pe, h1]) (pl6_ok hib h2 hk hk2 hl hkd)
    · have fe : ∀ (x : Option D) (c : C), BoxOk c → ∃ (v : Nat) (c' : C), zOp dSub (zOp dSub (zVar 5) (zC (.int 1))) (zCallF 2 F__law_draw (zCons (zVar 0) (zCons (zCall dMin2 (zCons (zVar 5) (zCons (zC (.int 3)) zNil))) zNil))) [some (.ptr ib), some (.lst (ln.map dN)), some (.int 4), some (.int ((ln.length : Int) / 2)), lk, some (dN k), some (.lst []), none, x] (S.set ib c) = .ok (dN v) (S.set ib c') ∧ v < k ∧ BoxOk c' := by
        intro x c hc
        obtain ⟨w, c3, q1, q2, q3⟩ := draw_at hib hc (many := if (3 : Int) < (k : Int) then 3 else (k : Int)) (by split <;> omega) (by split <;> omega)
        have hw : w < k := by
          split at q3 <;> omega
        refine ⟨k - 1 - w, c3, ?_, by omega, q2⟩
        simp [dMin2, dN, q1]
        omega
      obtain ⟨l, c', q1, q2, q3, q4⟩ := turn_loop hib h2 (some (.lst (ln.map dN))) (some (.int 4)) (some (.int ((ln.length : Int) / 2))) lk (some (.lst [])) none hk (by omega) _ fe 2 (by omega)
      refine ⟨l, c', q1, q2, q3, if_t (S' := S.set ib c1) (by simp [pe, h1]; omega) (set_n ?_)⟩
      have e : rangeD 0 2 = (List.range 2).map dN := rangeD_n 2
      simp only [zLcK, zRange1, zC, zCons, zNil, Rs.bnd_ok, e]
      rw [if_pos (by omega)]
      simp only [Rs.bnd_ok, pe, wipeE, List.set_cons_succ, List.set_cons_zero, List.map_nil]
      exact (congrArg (fun r => Rs.bnd r _) q4)
  · exact PlRes.of (c1 := c) (by simp [pe]; omega) (pl6_ok hib hc hk hk2 hl hkd)
theorem pl4_ok : PlRes S ib c ln kd lk k pl4 := by
  unfold pl4
  by_cases g : kd = 3
  · subst g
    obtain ⟨d, c1, h1, h2, h3⟩ := draw_at hib hc (many := k) (by omega) (by omega)
    refine ⟨[d], c1, by simp, by simp; omega, h2, if_t (S' := S.set ib c) (by simp [pe]) ?_⟩
    simp [pe, dN, bigN, h1]
  · exact PlRes.of (c1 := c) (by simp [pe]; omega) (pl5_ok hib hc hk hk2 hl hkd)
theorem pl3_ok : PlRes S ib c ln kd lk k pl3 := by
  unfold pl3
  by_cases g : kd < 3
  · obtain ⟨d, c1, h1, h2, h3⟩ := draw_at hib hc (many := 4) (by decide) (by decide)
    have fe : ∀ (x : Option D) (c : C), BoxOk c → ∃ (v : Nat) (c' : C), zCallF 2 F__law_draw (zCons (zVar 0) (zCons (zVar 5) zNil)) [some (.ptr ib), some (.lst (ln.map dN)), some (.int kd), some (.int ((ln.length : Int) / 2)), lk, some (dN k), some (.lst []), none, x] (S.set ib c) = .ok (dN v) (S.set ib c') ∧ v < k ∧ BoxOk c' := by
      intro x c hc
      obtain ⟨w, c3, q1, q2, q3⟩ := draw_at hib hc (many := (k : Int)) (by omega) (by omega)
      exact ⟨w, c3, by simp [dN, q1], by omega, q2⟩
    obtain ⟨l, c', q1, q2, q3, q4⟩ := turn_loop hib h2 (some (.lst (ln.map dN))) (some (.int kd)) (some (.int ((ln.length : Int) / 2))) lk (some (.lst [])) none hk (by omega) _ fe d (by omega)
    refine ⟨l, c', q1, q2, q3, if_t (S' := S.set ib c) (by simp [pe]; omega) (set_n ?_)⟩
    have e : zRange1 (zCons (zCallF 2 F__law_draw (zCons (zVar 0) (zCons (zC (.int 4)) zNil))) zNil) (pe ib ln kd lk k []) (S.set ib c) = .ok ⟨(List.range d).map dN, none⟩ (S.set ib c1) := by
      simp [zRange1, pe, h1, show (d : Int) ≤ 1000000 by omega, show -1000000 ≤ (d : Int) by omega, rangeD_n]
    rw [zLcK, e]
    simp only [Rs.bnd_ok, pe, wipeE, List.set_cons_succ, List.set_cons_zero, List.map_nil]
    exact (congrArg (fun r => Rs.bnd r _) q4)
  · exact PlRes.of (c1 := c) (by simp [pe]; omega) (pl4_ok hib hc hk hk2 hl hkd)
omit hib hc hk hk2 hl hkd in
theorem half_rng {hf : Int} {v : Nat} (hv : v ≤ 64) (e1 : hf * (if hf ≤ (k : Int) then 1 else 0) = (v : Int)) (a0 a1 a2 a4 a6 a7 a8 : Option D) (T : Sto) : zRange1 (zCons (zOp dMul (zVar 3) (zCall dInt (zCons (zOp dGe (zVar 5) (zVar 3)) zNil))) zNil) [a0, a1, a2, some (.int hf), a4, some (dN k), a6, a7, a8] T = .ok ⟨(List.range v).map dN, none⟩ T := by
  have lt : (if hf ≤ (k : Int) then (1 : Int) else 0) < 18446744073709551616 := by split <;> omega
  have lt2 : -18446744073709551616 < (if hf ≤ (k : Int) then (1 : Int) else 0) := by split <;> omega
  have hv3 : (v : Int) ≤ 1000000 := by omega
  have hv4 : -1000000 ≤ (v : Int) := by omega
  simp [zRange1, dN, lt, lt2, e1, hv3, hv4, rangeD_n]
theorem pl2_ok : PlRes S ib c ln kd lk k pl2 := by
  unfold pl2
  by_cases g : kd < 2 ∧ ln.length < 33
  · obtain ⟨l, c', q1, q2, q3, q4⟩ := filt_loop hib hc (some (.lst (ln.map dN))) (some (.int kd)) (some (.int ((ln.length : Int) / 2))) lk (some (dN k)) (some (.lst [])) none (if ln.length / 2 ≤ k then ln.length / 2 else 0)
    have hm : (if ln.length / 2 ≤ k then ln.length / 2 else 0) ≤ k := by split <;> omega
    have q5 := q4 (by omega)
    have e1 : (ln.length : Int) / 2 * (if (ln.length : Int) / 2 ≤ (k : Int) then 1 else 0) = ((if ln.length / 2 ≤ k then ln.length / 2 else 0 : Nat) : Int) := by
      by_cases q : ln.length / 2 ≤ k
      · rw [if_pos q, if_pos (by omega)]; omega
      · rw [if_neg q, if_neg (by omega)]; omega
    have e : zRange1 (zCons (zOp dMul (zVar 3) (zCall dInt (zCons (zOp dGe (zVar 5) (zVar 3)) zNil))) zNil) (pe ib ln kd lk k []) (S.set ib c) = .ok ⟨(List.range (if ln.length / 2 ≤ k then ln.length / 2 else 0)).map dN, none⟩ (S.set ib c) := half_rng (by omega) e1 _ _ _ _ _ _ _ _
    refine ⟨l, c', by omega, fun x hx => by have := q2 x hx; omega, q3, if_t (S' := S.set ib c) (by simp [pe, show (kd : Int) < 2 by omega, show (ln.length : Int) < 33 by omega]) (set_n ?_)⟩
    rw [zLcK, e]
    simp only [Rs.bnd_ok, pe, wipeE, List.set_cons_succ, List.set_cons_zero, List.map_nil]
    exact (congrArg (fun r => Rs.bnd r _) q5)
  · refine PlRes.of (c1 := c) ?_ (pl3_ok hib hc hk hk2 hl hkd)
    by_cases g1 : kd < 2
    · have g2 : ¬ ln.length < 33 := fun h => g ⟨g1, h⟩
      simp [pe]; omega
    · simp [pe]; omega
theorem pl1_ok : PlRes S ib c ln kd lk k pl1 := by
  unfold pl1
  by_cases g : kd < 2 ∧ ln.length < 10
  · obtain ⟨l, c', q1, q2, q3, q4⟩ := filt_loop hib hc (some (.lst (ln.map dN))) (some (.int kd)) (some (.int ((ln.length : Int) / 2))) lk (some (dN k)) (some (.lst [])) none k
    have q5 := q4 (by omega)
    refine ⟨l, c', by omega, q2, q3, if_t (S' := S.set ib c) (by simp [pe, show (kd : Int) < 2 by omega, show (ln.length : Int) < 10 by omega]) (set_n ?_)⟩
    have e : zRange1 (zCons (zVar 5) zNil) (pe ib ln kd lk k []) (S.set ib c) = .ok ⟨(List.range k).map dN, none⟩ (S.set ib c) := by
      simp [zRange1, pe, dN, show (k : Int) ≤ 1000000 by omega, show -1000000 ≤ (k : Int) by omega, rangeD_n]
    rw [zLcK, e]
    simp only [Rs.bnd_ok, pe, wipeE, List.set_cons_succ, List.set_cons_zero, List.map_nil]
    exact (congrArg (fun r => Rs.bnd r _) q5)
  · refine PlRes.of (c1 := c) ?_ (pl2_ok hib hc hk hk2 hl hkd)
    by_cases g1 : kd < 2
    · have g2 : ¬ ln.length < 10 := fun h => g ⟨g1, h⟩
      simp [pe]; omega
    · simp [pe]; omega
end
end K06

namespace K06
open PySem L2 Z
open PySem.Spec PyProof.Rows
variable [Tabs]

noncomputable def lkSet : SM := zSet 4 (zOp dAdd (zVar 4) (zLcK .frz [7] (zSrc (zVar 6)) (zgName 7) zYes (zTup (zCons (zOp dIx (zVar 1) (zVar 7)) (zCons (zOp dIx (zVar 1) (zVar 5)) zNil)))))
noncomputable def lkBody : SM := zSeq (zSet 6 (zLst zNil)) (zSeq pl1 lkSet)
theorem run_linked_eq : run__law_linked = (zSeq (zSet 2 (zCallF 2 F__law_draw (zCons (zVar 0) (zCons (zC (.int 6)) zNil))))
    (zSeq (zSet 3 (zOp dDiv (zCall dLen (zCons (zVar 1) zNil)) (zC (.int 2))))
    (zSeq (zSet 4 (zLst zNil))
    (zSeq (zFor (zRange2 (zCons (zC (.int 1)) (zCons (zCall dLen (zCons (zVar 1) zNil)) zNil))) (zgName 5) lkBody)
    (zRet (zVar 4)))))) := rfl
def LinkOk (ln : List Nat) (p : Nat × Nat) : Prop := ∃ j k, j < k ∧ k < ln.length ∧ p = (ptAt ln j, ptAt ln k)
theorem lkSet_ok {ib : Nat} {ln : List Nat} {kd k : Nat} {links : List (Nat × Nat)} {l : List Nat} (hk2 : k < ln.length) (hl : l.length ≤ 64) (hx : ∀ x ∈ l, x < k) (hb : links.length ≤ 4096) (T : Sto) :
    lkSet (pe ib ln kd (some (.lst (links.map pD))) k l) T = .mk (.next (pe ib ln kd (some (.lst ((links ++ l.map fun j => (ptAt ln j, ptAt ln k)).map pD))) k l)) T := by
  have e : lcA ⟨l.map dN, none⟩ (zgName 7) zYes (zTup (zCons (zOp dIx (zVar 1) (zVar 7)) (zCons (zOp dIx (zVar 1) (zVar 5)) zNil))) (pe ib ln kd (some (.lst (links.map pD))) k l) (l.map dN) [] T = .ok ((l.map fun j => (ptAt ln j, ptAt ln k)).map pD) T := by
    rw [lcA_pure (p := fun _ => true) (v := fun j => pD (ptAt ln j, ptAt ln k)) rfl l [] (by simp [bigN]; omega) fun j hj => ?_]
    · simp [Function.comp_def]
    · have h1 := ptAt_I hk2
      have h2 := ptAt_I (l := ln) (i := j) (by have := hx j hj; omega)
      refine ⟨_, rfl, rfl, fun _ => ?_⟩
      simp only [dN] at h1 h2
      simp [pe, dN, h1, h2, pD, bigN]
  unfold lkSet
  refine (set_n (d := .lst ((links ++ l.map fun j => (ptAt ln j, ptAt ln k)).map pD)) ?_).trans rfl
  have e2 : zSrc (zVar 6) (pe ib ln kd (some (.lst (links.map pD))) k l) T = .ok ⟨l.map dN, none⟩ T := by simp [zSrc, srcOf, pe]
  have e3 : zVar 4 (pe ib ln kd (some (.lst (links.map pD))) k l) T = .ok (.lst (links.map pD)) T := rfl
  have e4 : wipeE (pe ib ln kd (some (.lst (links.map pD))) k l) [7] = pe ib ln kd (some (.lst (links.map pD))) k l := rfl
  rw [zOp, e3]
  simp only [Rs.bnd_ok]
  rw [zLcK, e2]
  simp only [Rs.bnd_ok]
  rw [e4, e]
  simp only [Rs.bnd_ok, Mk.res]
  simp [dAdd, bigN]
  omega
theorem eval_linked {S : Sto} {ib : Nat} {c : C} (hib : ib < S.length) (hc : BoxOk c) {ln : List Nat} (hl : ln.length ≤ 64) :
    ∃ (links : List (Nat × Nat)) (c' : C), links.length ≤ 4096 ∧ (∀ p ∈ links, LinkOk ln p) ∧ BoxOk c' ∧ F__law_linked [.ptr ib, .lst (ln.map dN)] (S.set ib c) = .ok (.lst (links.map pD)) (S.set ib c') := by
  obtain ⟨kd, c1, h1, h2, h3⟩ := draw_at hib hc (many := 6) (by decide) (by decide)
  obtain ⟨env', S', e1, links, c', a, b, e2, e3, q1, q2, q3⟩ := forL_ind (s := ⟨(List.range' 1 (ln.length - 1)).map dN, none⟩) (g := zgName 5) (b := lkBody)
    (fun i env T => ∃ (links : List (Nat × Nat)) (c' : C) (a b : Option D), env = [some (.ptr ib), some (.lst (ln.map dN)), some (.int kd), some (.int ((ln.length : Int) / 2)), some (.lst (links.map pD)), a, b, none, none] ∧ T = S.set ib c' ∧ BoxOk c' ∧ links.length ≤ 64 * i ∧ ∀ p ∈ links, LinkOk ln p)
    ((List.range' 1 (ln.length - 1)).map dN) 0 [some (.ptr ib), some (.lst (ln.map dN)), some (.int kd), some (.int ((ln.length : Int) / 2)), some (.lst []), none, none, none, none] (S.set ib c1) ⟨[], c1, none, none, rfl, rfl, h2, by simp, by simp⟩ (fun _ _ _ _ => rfl) (by
      rintro i d env T hi ⟨links, c2, a, b, rfl, rfl, q1, q2, q3⟩
      have hlt : i < ln.length - 1 := by simpa using (List.getElem?_eq_some_iff.mp hi).1
      rw [List.getElem?_map, List.getElem?_range' hlt] at hi
      simp only [Option.map_some, Option.some.injEq] at hi
      subst hi
      have hk2 : 1 + 1 * i < ln.length := by omega
      obtain ⟨l, c3, r1, r2, r3, r4⟩ := pl1_ok hib q1 (ln := ln) (kd := kd) (k := 1 + 1 * i) (lk := some (.lst (links.map pD))) (by omega) hk2 hl (by omega)
      refine ⟨_, pe ib ln kd (some (.lst ((links ++ l.map fun j => (ptAt ln j, ptAt ln (1 + 1 * i))).map pD))) (1 + 1 * i) l, S.set ib c3, rfl, .inl ?_, links ++ l.map fun j => (ptAt ln j, ptAt ln (1 + 1 * i)), c3, _, _, rfl, rfl, r3, ?_, ?_⟩
      · unfold lkBody
        refine seq_n (env' := pe ib ln kd (some (.lst (links.map pD))) (1 + 1 * i) []) (S' := S.set ib c2) ?_ (seq_n r4 (lkSet_ok hk2 r1 r2 (by omega) _))
        simp [pe, bigN]
      · rw [List.length_append, List.length_map]
        omega
      · intro p hp
        rcases List.mem_append.mp hp with e | e
        · exact q3 p e
        · obtain ⟨j, hj, rfl⟩ := List.mem_map.mp e
          exact ⟨j, _, r2 j hj, hk2, rfl⟩)
  refine ⟨links, c', by simp at q2; omega, q3, q1, Fof_boxS (d := .lst (links.map pD)) ?_ (cls_map (cl_pD _) links) q1⟩
  rw [e2, e3] at e1
  rw [run_linked_eq]
  refine seq_n (env' := [some (.ptr ib), some (.lst (ln.map dN)), some (.int kd), none, none, none, none, none, none]) (S' := S.set ib c1) (by simp [h1]) ?_
  refine seq_n (env' := [some (.ptr ib), some (.lst (ln.map dN)), some (.int kd), some (.int ((ln.length : Int) / 2)), none, none, none, none, none]) (S' := S.set ib c1) (by simp) ?_
  refine seq_n (env' := [some (.ptr ib), some (.lst (ln.map dN)), some (.int kd), some (.int ((ln.length : Int) / 2)), some (.lst []), none, none, none, none]) (S' := S.set ib c1) (by simp [bigN]) ?_
  refine seq_n (env' := [some (.ptr ib), some (.lst (ln.map dN)), some (.int kd), some (.int ((ln.length : Int) / 2)), some (.lst (links.map pD)), a, b, none, none]) (S' := S.set ib c') ?_ (by simp)
  have er : zRange2 (zCons (zC (.int 1)) (zCons (zCall dLen (zCons (zVar 1) zNil)) zNil)) [some (.ptr ib), some (.lst (ln.map dN)), some (.int kd), some (.int ((ln.length : Int) / 2)), some (.lst []), none, none, none, none] (S.set ib c1) = .ok ⟨(List.range' 1 (ln.length - 1)).map dN, none⟩ (S.set ib c1) := by
    have := rangeD_nn 1 ln.length
    simp [zRange2, show (ln.length : Int) ≤ 1000000 by omega, show -1000000 ≤ (ln.length : Int) by omega]
    simpa using this
  rw [zFor, er]
  exact e1
end K06

namespace K06
open PySem L2 Z
open PySem.Spec PyProof.Rows
variable [Tabs]

/-! ### the law's table -/
def Bef (ln : List Nat) (x y : Nat) : Prop := ∃ j k, j < k ∧ k < ln.length ∧ x = ptAt ln j ∧ y = ptAt ln k
theorem ptAt_inj {ln : List Nat} (hd : ln.Nodup) {j k : Nat} (hj : j < ln.length) (hk : k < ln.length) (e : ptAt ln j = ptAt ln k) : j = k := by
  have h1 := ptAt_get hj
  have h2 := ptAt_get hk
  rw [e, ← h2] at h1
  exact (List.getElem?_inj hj hd).mp h1
theorem Bef.trans {ln : List Nat} (hd : ln.Nodup) {x y z : Nat} (h : Bef ln x y) (h' : Bef ln y z) : Bef ln x z := by
  obtain ⟨j, k, h1, h2, rfl, rfl⟩ := h
  obtain ⟨j', k', h3, h4, e, rfl⟩ := h'
  have := ptAt_inj hd h2 (by omega) e
  exact ⟨j, k', by omega, h4, rfl, rfl⟩
theorem Bef.irr {ln : List Nat} (hd : ln.Nodup) {x : Nat} (h : Bef ln x x) : False := by
  obtain ⟨j, k, h1, h2, e1, e2⟩ := h
  have := ptAt_inj hd (by omega) h2 (e1.symm.trans e2)
  omega
def bools (n : Nat) (r : Nat → Nat → Bool) (y : Nat) : List D := (List.range n).map fun z => .bl (r y z)
theorem bools_get {n z : Nat} (r : Nat → Nat → Bool) (y : Nat) (h : z < n) : L2.atI (bools n r y) (z : Int) = some (.bl (r y z)) := atI_nat (by simp [bools, h])
@[simp] theorem bools_len (n : Nat) (r : Nat → Nat → Bool) (y : Nat) : (bools n r y).length = n := by simp [bools]
structure MS (S0 : Sto) (n : Nat) (r : Nat → Nat → Bool) (ah : Nat → List Nat) (row : Nat → Nat) (T : Sto) : Prop where
  pre : ∃ L, T = S0 ++ L
  out : T[S0.length + n]? = some (.lst ((List.range n).map fun y => .ptr (row y)))
  rws : ∀ y, y < n → T[row y]? = some (.lst (bools n r y))
  plc : ∀ y, y < n → S0.length ≤ row y ∧ (row y < S0.length + n ∨ S0.length + 2 * n + 2 ≤ row y)
  inj : ∀ y z, y < n → z < n → row y = row z → y = z
  aho : T[S0.length + 2 * n + 1]? = some (.lst ((List.range n).map fun y => .ptr (S0.length + n + 1 + y)))
  ahr : ∀ y, y < n → T[S0.length + n + 1 + y]? = some (.lst ((ah y).map dN))
theorem pre_set {S0 L : Sto} {q : Nat} (c : C) (h : S0.length ≤ q) : ∃ L', (S0 ++ L).set q c = S0 ++ L' := ⟨_, List.set_append_right _ _ h⟩
section
variable {S0 : Sto} {n : Nat} {r : Nat → Nat → Bool} {ah : Nat → List Nat} {row : Nat → Nat} {T : Sto}
theorem MS.lt (h : MS S0 n r ah row T) {y : Nat} (hy : y < n) : row y < T.length := (List.getElem?_eq_some_iff.mp (h.rws y hy)).1
theorem MS.put (h : MS S0 n r ah row T) {y x : Nat} (hy : y < n) (hx : x < n) : MS S0 n (fun i z => if i = y ∧ z = x then true else r i z) ah row (T.set (row y) (.lst ((bools n r y).set x (.bl true)))) := by
  obtain ⟨L, rfl⟩ := h.pre
  have hp := h.plc y hy
  refine ⟨pre_set _ hp.1, ?_, fun i hi => ?_, h.plc, h.inj, ?_, fun i hi => ?_⟩
  · rw [List.getElem?_set_ne (by omega)]; exact h.out
  · by_cases e : i = y
    · subst e
      rw [List.getElem?_set_self (h.lt hy)]
      unfold bools
      rw [set_fun]
      congr 2
      refine List.map_congr_left fun z _ => ?_
      by_cases e : z = x
      · simp [e]
      · simp [e]
    · rw [List.getElem?_set_ne (fun q => e (h.inj y i hy hi q).symm), h.rws i hi]
      unfold bools
      congr 2
      refine List.map_congr_left fun z _ => ?_
      simp [e]
  · rw [List.getElem?_set_ne (by omega)]; exact h.aho
  · rw [List.getElem?_set_ne (by omega)]; exact h.ahr i hi
theorem MS.app (h : MS S0 n r ah row T) {y x : Nat} (hy : y < n) : MS S0 n r (fun i => if i = y then ah y ++ [x] else ah i) row (T.set (S0.length + n + 1 + y) (.lst ((ah y).map dN ++ [dN x]))) := by
  obtain ⟨L, rfl⟩ := h.pre
  have hlt := (List.getElem?_eq_some_iff.mp (h.ahr y hy)).1
  refine ⟨pre_set _ (by omega), ?_, fun i hi => ?_, h.plc, h.inj, ?_, fun i hi => ?_⟩
  · rw [List.getElem?_set_ne (by omega)]; exact h.out
  · have := h.plc i hi
    rw [List.getElem?_set_ne (by omega)]; exact h.rws i hi
  · rw [List.getElem?_set_ne (by omega)]; exact h.aho
  · by_cases e : i = y
    · subst e
      rw [List.getElem?_set_self hlt, if_pos rfl]
      simp
    · rw [List.getElem?_set_ne (by omega), if_neg e]
      exact h.ahr i hi
theorem MS.new (h : MS S0 n r ah row T) {y : Nat} (hy : y < n) (f : Nat → Bool) : MS S0 n (fun i z => if i = y then f z else r i z) ah (fun i => if i = y then T.length else row i)
    ((T ++ [C.lst ((List.range n).map fun z => .bl (f z))]).set (S0.length + n) (.lst (((List.range n).map fun y => D.ptr (row y)).set y (.ptr T.length)))) := by
  obtain ⟨L, rfl⟩ := h.pre
  have ho := (List.getElem?_eq_some_iff.mp h.out).1
  have ha := (List.getElem?_eq_some_iff.mp h.aho).1
  have get : ∀ {q : Nat} {c : C}, q ≠ S0.length + n → (S0 ++ L)[q]? = some c → (((S0 ++ L) ++ [C.lst ((List.range n).map fun z => .bl (f z))]).set (S0.length + n) (.lst (((List.range n).map fun y => D.ptr (row y)).set y (.ptr (S0 ++ L).length))))[q]? = some c := fun {q c} hq hc => by
    rw [List.getElem?_set_ne (fun e => hq e.symm), List.getElem?_append_left (List.getElem?_eq_some_iff.mp hc).1]
    exact hc
  refine ⟨?_, ?_, fun i hi => ?_, fun i hi => ?_, fun i j hi hj e => ?_, ?_, fun i hi => ?_⟩
  · rw [List.append_assoc]
    exact pre_set _ (by omega)
  · rw [List.getElem?_set_self (by simp at ho ⊢; omega), set_fun]
    congr 2
    refine List.map_congr_left fun z _ => ?_
    by_cases e : z = y <;> simp [e]
  · by_cases e : i = y
    · subst e
      simp only [if_true]
      rw [List.getElem?_set_ne (by omega), List.getElem?_append_right (Nat.le_refl _)]
      simp [bools]
    · simp only [if_neg e]
      have := h.plc i hi
      exact (get (by omega) (h.rws i hi)).trans (by unfold bools; congr 2; refine List.map_congr_left fun z _ => ?_; simp [e])
  · by_cases e : i = y
    · simp only [if_pos e]; omega
    · simp only [if_neg e]; exact h.plc i hi
  · by_cases e1 : i = y
    · by_cases e2 : j = y
      · omega
      · simp only [if_pos e1, if_neg e2] at e
        have := h.lt hj
        omega
    · by_cases e2 : j = y
      · simp only [if_neg e1, if_pos e2] at e
        have := h.lt hi
        omega
      · simp only [if_neg e1, if_neg e2] at e
        exact h.inj i j hi hj e
  · exact get (by omega) h.aho
  · exact get (by omega) (h.ahr i hi)
end
theorem frz_rows {S0 : Sto} {b : Nat → List D} {row : Nat → Nat} {o : Nat} : ∀ (ys : List Nat) (L : Sto), ys.Nodup → (∀ y ∈ ys, (S0 ++ L)[row y]? = some (.lst (b y))) → (∀ y ∈ ys, S0.length ≤ row y ∧ row y ≠ o) → (∀ y ∈ ys, ∀ z ∈ ys, row y = row z → y = z) →
    ∃ L', frzs 1 (ys.map fun y => .ptr (row y)) (S0 ++ L) = some (ys.map fun y => .lst (b y), S0 ++ L') ∧ (S0 ++ L')[o]? = (S0 ++ L)[o]?
  | [], L, _, _, _, _ => ⟨L, by simp [frzs], rfl⟩
  | y :: ys, L, hn, hr, hp, hi => by
    obtain ⟨n1, n2⟩ := List.nodup_cons.mp hn
    obtain ⟨p1, p2⟩ := hp y List.mem_cons_self
    have h1 := hr y List.mem_cons_self
    obtain ⟨L1, e1⟩ := pre_set (S0 := S0) (L := L) .gone p1
    obtain ⟨L', e2, e3⟩ := frz_rows (S0 := S0) (b := b) (row := row) (o := o) ys L1 n2 (fun z hz => by
      rw [← e1, List.getElem?_set_ne (fun q => n1 (by rw [hi y List.mem_cons_self z (List.mem_cons_of_mem _ hz) q]; exact hz))]
      exact hr z (List.mem_cons_of_mem _ hz)) (fun z hz => hp z (List.mem_cons_of_mem _ hz)) fun z hz w hw => hi z (List.mem_cons_of_mem _ hz) w (List.mem_cons_of_mem _ hw)
    refine ⟨L', ?_, ?_⟩
    · rw [List.map_cons, frzs]
      have : frz 1 (.ptr (row y)) (S0 ++ L) = some (.lst (b y), S0 ++ L1) := by
        rw [frz, h1]
        simp only [frzs]
        rw [h1]
        simp only []
        rw [e1]
      simp only [this, e2]
      rfl
    · rw [e3, ← e1, List.getElem?_set_ne p2]
theorem MS.frz {S0 : Sto} {n : Nat} {r : Nat → Nat → Bool} {ah : Nat → List Nat} {row : Nat → Nat} {T : Sto} (h : MS S0 n r ah row T) : ∃ L', frz 2 (.ptr (S0.length + n)) T = some (.lst ((List.range n).map fun y => .lst (bools n r y)), S0 ++ L') := by
  obtain ⟨L, rfl⟩ := h.pre
  obtain ⟨L', e1, e2⟩ := frz_rows (S0 := S0) (b := bools n r) (row := row) (o := S0.length + n) (List.range n) L List.nodup_range (fun y hy => h.rws y (List.mem_range.mp hy)) (fun y hy => by
    have := h.plc y (List.mem_range.mp hy)
    omega) fun y hy z hz => h.inj y z (List.mem_range.mp hy) (List.mem_range.mp hz)
  rw [h.out] at e2
  obtain ⟨L2, e3⟩ := pre_set (S0 := S0) (L := L') (q := S0.length + n) .gone (by omega)
  refine ⟨L2, ?_⟩
  rw [Z.frz, h.out]
  simp only [e1]
  rw [e2]
  simp only []
  rw [e3]
end K06

namespace K06
open PySem L2 Z
open PySem.Spec PyProof.Rows
variable [Tabs]

theorem cell_loop {g : GM} {fe : EM D} {env : En} {c0 : C} (hfe : ∀ d T, ∃ env1, g d env = some env1 ∧ fe env1 T = .ok (.ptr T.length) (T ++ [c0])) (xs : List D) : ∀ (L acc : List D) (T : Sto), acc.length + L.length ≤ bigN →
    lcA ⟨xs, none⟩ g zYes fe env L acc T = .ok (acc ++ (List.range L.length).map fun y => .ptr (T.length + y)) (T ++ List.replicate L.length c0)
  | [], acc, T, _ => by simp [lcA]
  | d :: L, acc, T, h => by
    obtain ⟨env1, h1, h2⟩ := hfe d T
    have hb : acc.length < bigN := by simp at h; omega
    rw [lcA, if_pos (Src.okAt_none _ _), h1]
    simp only [zYes, Rs.nox_ok, Rs.bnd_ok, if_true, h2]
    rw [if_pos hb, cell_loop hfe xs L _ _ (by simp at h ⊢; omega)]
    rw [List.length_cons, List.range_succ_eq_map, List.replicate_succ]
    simp [Function.comp_def, Nat.add_assoc, Nat.add_comm 1]
noncomputable def lwA : SM := zFor (zSrc (zVar 1)) (zgTup 2 (zgCons (zgName 6) (zgCons (zgName 5) zgNil))) (zExpr (zMethL dAppend (zOp dIx (zVar 4) (zVar 5)) (zCons (zVar 6) zNil)))
noncomputable def lwRow : EM D := zLcK .cel [7] (zRange1 (zCons (zVar 2) zNil)) (zgName 7) zYes (zOrV (zOp dIx (zOp dIx (zVar 3) (zVar 5)) (zVar 7)) (zOrV (zOp dIx (zOp dIx (zVar 3) (zVar 6)) (zVar 7)) (zOp dEq (zVar 7) (zVar 6))))
noncomputable def lwB : SM := zIfS (zB (zOp dEq (zCall dLen (zCons (zOp dIx (zVar 4) (zVar 6)) zNil)) (zC (.int 0)))) (zPut (zOp dIx (zVar 3) (zVar 5)) (zVar 6) (zC (.bl true))) (zIfS (zNot (zTru (zOp dIx (zOp dIx (zVar 3) (zVar 5)) (zVar 6)))) (zPut (zVar 3) (zVar 5) lwRow) zNext)
noncomputable def lwC : SM := zFor (zSrc (zOp dIx (zVar 4) (zVar 5))) (zgName 6) lwB
noncomputable def lwD : SM := zFor (zSrc (zVar 0)) (zgName 5) lwC
theorem run_lower_eq : run__law_lower = (zSeq (zSet 2 (zCall dLen (zCons (zVar 0) zNil)))
    (zSeq (zSet 3 (zLcK .cel [5] (zRange1 (zCons (zVar 2) zNil)) (zgName 5) zYes (zLcK .cel [6] (zRange1 (zCons (zVar 2) zNil)) (zgName 6) zYes (zC (.bl false)))))
    (zSeq (zSet 4 (zLcK .cel [5] (zRange1 (zCons (zVar 2) zNil)) (zgName 5) zYes (zLstC zNil)))
    (zSeq lwA (zSeq lwD (zRet (zVar 3))))))) := rfl
def le (S0 : Sto) (n : Nat) (ln : List Nat) (lk : List (Nat × Nat)) (a b : Option D) : En := [some (.lst (ln.map dN)), some (.lst (lk.map pD)), some (dN n), some (.ptr (S0.length + n)), some (.ptr (S0.length + 2 * n + 1)), a, b, none]
theorem ptrs_get {n y : Nat} (f : Nat → Nat) (h : y < n) : L2.atI ((List.range n).map fun y => D.ptr (f y)) (y : Int) = some (.ptr (f y)) := atI_nat (by simp [h])
section
variable {S0 : Sto} {n : Nat} {ln : List Nat} {lk : List (Nat × Nat)} (hn : n ≤ 64) (hd : ln.Nodup) (hln : ∀ x ∈ ln, x < n)
include hn hd hln
theorem bef_lt {x y : Nat} (h : Bef ln x y) : x < n ∧ y < n := by
  obtain ⟨j, k, h1, h2, rfl, rfl⟩ := h
  exact ⟨hln _ (ptAt_mem (by omega)), hln _ (ptAt_mem h2)⟩
theorem lwA_ok (hlk : lk.length ≤ 4096) (hl : ∀ p ∈ lk, LinkOk ln p) {row : Nat → Nat} {T : Sto} (h : MS S0 n (fun _ _ => false) (fun _ => []) row T) :
    ∃ ah T' a b, lwA (le S0 n ln lk none none) T = .mk (.next (le S0 n ln lk a b)) T' ∧ MS S0 n (fun _ _ => false) ah row T' ∧ ∀ y x, y < n → x ∈ ah y → Bef ln x y := by
  obtain ⟨env', T', e1, ah, a, b, e2, q1, q2, q3⟩ := forL_ind (s := ⟨lk.map pD, none⟩) (g := zgTup 2 (zgCons (zgName 6) (zgCons (zgName 5) zgNil))) (b := zExpr (zMethL dAppend (zOp dIx (zVar 4) (zVar 5)) (zCons (zVar 6) zNil)))
    (fun i env T => ∃ ah a b, env = le S0 n ln lk a b ∧ MS S0 n (fun _ _ => false) ah row T ∧ (∀ y, (ah y).length ≤ i) ∧ ∀ y x, y < n → x ∈ ah y → Bef ln x y)
    (lk.map pD) 0 (le S0 n ln lk none none) T ⟨fun _ => [], none, none, rfl, h, by simp, by simp⟩ (fun _ _ _ _ => rfl) (by
      rintro i d env T hi ⟨ah, a, b, rfl, q1, q2, q3⟩
      have hlt : i < lk.length := by simpa using (List.getElem?_eq_some_iff.mp hi).1
      rw [List.getElem?_map, List.getElem?_eq_getElem hlt] at hi
      cases hi
      generalize hp : lk[i] = p
      obtain ⟨j, k, h1, h2, e⟩ := hl p (by rw [← hp]; exact List.getElem_mem hlt)
      obtain ⟨x, y⟩ := p
      have hb : Bef ln x y := ⟨j, k, h1, h2, congrArg Prod.fst e, congrArg Prod.snd e⟩
      obtain ⟨hx, hy⟩ := bef_lt hn hd hln hb
      have hT := q1.aho
      have hT2 := q1.ahr y hy
      have g1 := ptrs_get (fun y => S0.length + n + 1 + y) hy
      have hlen := q2 y
      have hbig : (ah y).length < bigN := by unfold bigN; omega
      refine ⟨le S0 n ln lk (some (dN y)) (some (dN x)), le S0 n ln lk (some (dN y)) (some (dN x)), _, by simp [pD, le], .inl ?_, _, _, _, rfl, q1.app (x := x) hy, fun i2 => ?_, fun i2 x2 hi2 hx2 => ?_⟩
      · simp only [le, dN] at hT2 ⊢
        have c1 := (List.getElem?_eq_some_iff.mp hT).1
        have c2 := (List.getElem?_eq_some_iff.mp hT).2
        have c3 := (List.getElem?_eq_some_iff.mp hT2).1
        have c4 := (List.getElem?_eq_some_iff.mp hT2).2
        simp [c1, c2, c3, c4, g1, hbig, dN]
      · by_cases e : i2 = y
        · subst e; simp; omega
        · simp [e]; have := q2 i2; omega
      · by_cases e : i2 = y
        · subst e
          simp at hx2
          rcases hx2 with e | e
          · exact q3 i2 x2 hi2 e
          · subst e; exact hb
        · simp [e] at hx2
          exact q3 i2 x2 hi2 hx2)
  refine ⟨ah, T', a, b, ?_, q1, q3⟩
  unfold lwA
  rw [zFor]
  have e3 : zSrc (zVar 1) (le S0 n ln lk none none) T = .ok ⟨lk.map pD, none⟩ T := rfl
  rw [e3]
  rw [e2] at e1
  exact e1
theorem lwRow_ok {r : Nat → Nat → Bool} {ah : Nat → List Nat} {row : Nat → Nat} {T : Sto} (h : MS S0 n r ah row T) {x y : Nat} (hx : x < n) (hy : y < n) :
    lwRow (le S0 n ln lk (some (dN y)) (some (dN x))) T = .ok (.ptr T.length) (T ++ [C.lst ((List.range n).map fun z => .bl (r y z || (r x z || decide (z = x))))]) := by
  have e : lcA ⟨(List.range n).map dN, none⟩ (zgName 7) zYes (zOrV (zOp dIx (zOp dIx (zVar 3) (zVar 5)) (zVar 7)) (zOrV (zOp dIx (zOp dIx (zVar 3) (zVar 6)) (zVar 7)) (zOp dEq (zVar 7) (zVar 6)))) (le S0 n ln lk (some (dN y)) (some (dN x))) ((List.range n).map dN) [] T = .ok ((List.range n).map fun z => .bl (r y z || (r x z || decide (z = x)))) T := by
    rw [lcA_pure (p := fun _ => true) (v := fun z => D.bl (r y z || (r x z || decide (z = x)))) rfl (List.range n) [] (by simp [bigN]; omega) fun z hz => ?_]
    · simp
    · have hz' := List.mem_range.mp hz
      refine ⟨_, rfl, rfl, fun _ => ?_⟩
      have g1 := ptrs_get row hy
      have g2 := ptrs_get row hx
      have g3 := bools_get r y hz'
      have g4 := bools_get r x hz'
      have c1 := h.out
      have c2 := h.rws y hy
      have c3 := h.rws x hx
      have k1 := (List.getElem?_eq_some_iff.mp c1).1
      have k2 := (List.getElem?_eq_some_iff.mp c2).1
      have k3 := (List.getElem?_eq_some_iff.mp c3).1
      have v1 := (List.getElem?_eq_some_iff.mp c1).2
      have v2 := (List.getElem?_eq_some_iff.mp c2).2
      have v3 := (List.getElem?_eq_some_iff.mp c3).2
      cases q1 : r y z with
      | true => simp [le, dN, k1, k2, v1, v2, g1, g3, q1]
      | false =>
        cases q2 : r x z with
        | true => simp [le, dN, k1, k2, k3, v1, v2, v3, g1, g2, g3, g4, q1, q2]
        | false => simp [le, dN, k1, k2, k3, v1, v2, v3, g1, g2, g3, g4, q1, q2]; omega
  unfold lwRow
  have e2 : zRange1 (zCons (zVar 2) zNil) (le S0 n ln lk (some (dN y)) (some (dN x))) T = .ok ⟨(List.range n).map dN, none⟩ T := by
    simp [zRange1, le, dN, show (n : Int) ≤ 1000000 by omega, show -1000000 ≤ (n : Int) by omega, rangeD_n]
  have e4 : wipeE (le S0 n ln lk (some (dN y)) (some (dN x))) [7] = le S0 n ln lk (some (dN y)) (some (dN x)) := rfl
  rw [zLcK, e2]
  simp only [Rs.bnd_ok]
  rw [e4, e]
  rfl
theorem lwB_ok {r : Nat → Nat → Bool} {ah : Nat → List Nat} {row : Nat → Nat} {T : Sto} (h : MS S0 n r ah row T) (hr : ∀ y z, y < n → z < n → r y z = true → Bef ln z y) {x y : Nat} (hb : Bef ln x y) :
    ∃ r' row' T', lwB (le S0 n ln lk (some (dN y)) (some (dN x))) T = .mk (.next (le S0 n ln lk (some (dN y)) (some (dN x)))) T' ∧ MS S0 n r' ah row' T' ∧ ∀ y z, y < n → z < n → r' y z = true → Bef ln z y := by
  obtain ⟨hx, hy⟩ := bef_lt hn hd hln hb
  have g1 := ptrs_get row hy
  have g2 := ptrs_get (fun y => S0.length + n + 1 + y) hx
  have g3 := bools_get r y hx
  have c1 := h.out
  have c2 := h.rws y hy
  have c3 := h.aho
  have c4 := h.ahr x hx
  have k1 := (List.getElem?_eq_some_iff.mp c1).1
  have k2 := (List.getElem?_eq_some_iff.mp c2).1
  have k3 := (List.getElem?_eq_some_iff.mp c3).1
  have k4 := (List.getElem?_eq_some_iff.mp c4).1
  have v1 := (List.getElem?_eq_some_iff.mp c1).2
  have v2 := (List.getElem?_eq_some_iff.mp c2).2
  have v3 := (List.getElem?_eq_some_iff.mp c3).2
  have v4 := (List.getElem?_eq_some_iff.mp c4).2
  by_cases q : (ah x).length = 0
  · refine ⟨_, row, _, if_t (S' := T) ?_ ?_, h.put hy hx, fun i z hi hz e => ?_⟩
    · simp [le, dN, k3, v3, g2, k4, v4]
      exact List.length_eq_zero_iff.mp q
    · have i1 := ixNn hx
      simp [le, dN, k1, k2, v1, v2, g1, i1]
    · by_cases e2 : i = y ∧ z = x
      · rw [e2.1, e2.2]; exact hb
      · simp only [if_neg e2] at e
        exact hr i z hi hz e
  · cases q2 : r y x with
    | true =>
      refine ⟨r, row, T, if_f (S' := T) ?_ (if_f (S' := T) ?_ rfl), h, hr⟩
      · simp [le, dN, k3, v3, g2, k4, v4]
        exact fun e => q (by rw [e]; rfl)
      · simp [le, dN, k1, v1, k2, v2, g1, g3, q2]
    | false =>
      refine ⟨_, _, _, if_f (S' := T) ?_ (if_t (S' := T) ?_ ?_), h.new hy fun z => r y z || (r x z || decide (z = x)), fun i z hi hz e => ?_⟩
      · simp [le, dN, k3, v3, g2, k4, v4]
        exact fun e => q (by rw [e]; rfl)
      · simp [le, dN, k1, v1, k2, v2, g1, g3, q2]
      · have i1 := ixNn hy
        rw [zPut, lwRow_ok hn hd hln h hx hy]
        have k1' : S0.length + n < T.length + 1 := by omega
        simp [le, dN, k1', List.getElem_append_left k1, v1, i1]
      · by_cases e2 : i = y
        · subst e2
          simp at e
          rcases e with e | e | e
          · exact hr i z hi hz e
          · exact (hr x z hx hz e).trans hd hb
          · subst e; exact hb
        · simp only [if_neg e2] at e
          exact hr i z hi hz e
theorem lwC_ok {r : Nat → Nat → Bool} {ah : Nat → List Nat} {row : Nat → Nat} {T : Sto} (h : MS S0 n r ah row T) (hr : ∀ y z, y < n → z < n → r y z = true → Bef ln z y) (ha : ∀ y x, y < n → x ∈ ah y → Bef ln x y) {y : Nat} (hy : y < n) (b : Option D) :
    ∃ r' row' T' b', lwC (le S0 n ln lk (some (dN y)) b) T = .mk (.next (le S0 n ln lk (some (dN y)) b')) T' ∧ MS S0 n r' ah row' T' ∧ ∀ y z, y < n → z < n → r' y z = true → Bef ln z y := by
  obtain ⟨env', T', e1, r', row', b', e2, q1, q2⟩ := forL_ind (s := ⟨(ah y).map dN, some (S0.length + n + 1 + y)⟩) (g := zgName 6) (b := lwB)
    (fun i env T => ∃ r row b, env = le S0 n ln lk (some (dN y)) b ∧ MS S0 n r ah row T ∧ ∀ y z, y < n → z < n → r y z = true → Bef ln z y)
    ((ah y).map dN) 0 (le S0 n ln lk (some (dN y)) b) T ⟨r, row, b, rfl, h, hr⟩ (fun i env T hP => by
      obtain ⟨r, row, b, _, q, _⟩ := hP
      exact okAt_ptr' (q.ahr y hy)) (by
      rintro i d env T hi ⟨r, row, b, rfl, q1, q2⟩
      have hlt : i < (ah y).length := by simpa using (List.getElem?_eq_some_iff.mp hi).1
      rw [List.getElem?_map, List.getElem?_eq_getElem hlt] at hi
      cases hi
      obtain ⟨r', row', T', h1, h2, h3⟩ := lwB_ok hn hd hln (lk := lk) q1 q2 (ha y _ hy (List.getElem_mem hlt))
      exact ⟨_, _, _, rfl, .inl h1, r', row', _, rfl, h2, h3⟩)
  refine ⟨r', row', T', b', ?_, q1, q2⟩
  have g2 := ptrs_get (fun y => S0.length + n + 1 + y) hy
  have c3 := h.aho
  have c4 := h.ahr y hy
  have k3 := (List.getElem?_eq_some_iff.mp c3).1
  have k4 := (List.getElem?_eq_some_iff.mp c4).1
  have v3 := (List.getElem?_eq_some_iff.mp c3).2
  have v4 := (List.getElem?_eq_some_iff.mp c4).2
  have e3 : zSrc (zOp dIx (zVar 4) (zVar 5)) (le S0 n ln lk (some (dN y)) b) T = .ok ⟨(ah y).map dN, some (S0.length + n + 1 + y)⟩ T := by
    simp [zSrc, srcOf, le, dN, k3, v3, g2, k4, v4]
  unfold lwC
  rw [zFor, e3]
  rw [e2] at e1
  exact e1
theorem lwD_ok {r : Nat → Nat → Bool} {ah : Nat → List Nat} {row : Nat → Nat} {T : Sto} (h : MS S0 n r ah row T) (hr : ∀ y z, y < n → z < n → r y z = true → Bef ln z y) (ha : ∀ y x, y < n → x ∈ ah y → Bef ln x y) (a b : Option D) :
    ∃ r' row' T' a' b', lwD (le S0 n ln lk a b) T = .mk (.next (le S0 n ln lk a' b')) T' ∧ MS S0 n r' ah row' T' ∧ ∀ y z, y < n → z < n → r' y z = true → Bef ln z y := by
  obtain ⟨env', T', e1, r', row', a', b', e2, q1, q2⟩ := forL_ind (s := ⟨ln.map dN, none⟩) (g := zgName 5) (b := lwC)
    (fun i env T => ∃ r row a b, env = le S0 n ln lk a b ∧ MS S0 n r ah row T ∧ ∀ y z, y < n → z < n → r y z = true → Bef ln z y)
    (ln.map dN) 0 (le S0 n ln lk a b) T ⟨r, row, a, b, rfl, h, hr⟩ (fun _ _ _ _ => rfl) (by
      rintro i d env T hi ⟨r, row, a, b, rfl, q1, q2⟩
      have hlt : i < ln.length := by simpa using (List.getElem?_eq_some_iff.mp hi).1
      rw [List.getElem?_map, List.getElem?_eq_getElem hlt] at hi
      cases hi
      obtain ⟨r', row', T', b', h1, h2, h3⟩ := lwC_ok hn hd hln (lk := lk) q1 q2 ha (hln _ (List.getElem_mem hlt)) b
      exact ⟨_, _, _, rfl, .inl h1, r', row', _, _, rfl, h2, h3⟩)
  refine ⟨r', row', T', a', b', ?_, q1, q2⟩
  unfold lwD
  rw [zFor]
  have e3 : zSrc (zVar 0) (le S0 n ln lk a b) T = .ok ⟨ln.map dN, none⟩ T := rfl
  rw [e3]
  rw [e2] at e1
  exact e1
theorem lower_ms (hlen : ln.length = n) (hlk : lk.length ≤ 4096) (hl : ∀ p ∈ lk, LinkOk ln p) :
    ∃ (r : Nat → Nat → Bool) (ah : Nat → List Nat) (row : Nat → Nat) (T2 : Sto), (∀ x, x < n → r x x = false) ∧ MS S0 n r ah row T2 ∧ run__law_lower (startE N__law_lower [.lst (ln.map dN), .lst (lk.map pD)]) S0 = .mk (.ret (.ptr (S0.length + n))) T2 := by
  have er : ∀ (env : En) (T : Sto), env[2]? = some (some (dN n)) → zRange1 (zCons (zVar 2) zNil) env T = .ok ⟨(List.range n).map dN, none⟩ T := fun env T h => by
    simp [zRange1, h, dN, show (n : Int) ≤ 1000000 by omega, show -1000000 ≤ (n : Int) by omega, rangeD_n]
  have r1 : ∀ (x : Option D) (T : Sto), zLcK .cel [6] (zRange1 (zCons (zVar 2) zNil)) (zgName 6) zYes (zC (.bl false)) [some (.lst (ln.map dN)), some (.lst (lk.map pD)), some (dN n), none, none, x, none, none] T = .ok (.ptr T.length) (T ++ [C.lst (bools n (fun _ _ => false) 0)]) := fun x T => by
    rw [zLcK, er _ _ rfl]
    simp only [Rs.bnd_ok]
    rw [lcA_pure (p := fun _ => true) (v := fun _ => D.bl false) rfl (List.range n) [] (by simp [bigN]; omega) fun z hz => ⟨_, rfl, rfl, fun _ => rfl⟩]
    simp [Mk.res, bools]
  have o1 : zLcK .cel [5] (zRange1 (zCons (zVar 2) zNil)) (zgName 5) zYes (zLcK .cel [6] (zRange1 (zCons (zVar 2) zNil)) (zgName 6) zYes (zC (.bl false))) [some (.lst (ln.map dN)), some (.lst (lk.map pD)), some (dN n), none, none, none, none, none] S0 = .ok (.ptr (S0.length + n)) (S0 ++ List.replicate n (C.lst (bools n (fun _ _ => false) 0)) ++ [C.lst ((List.range n).map fun y => .ptr (S0.length + y))]) := by
    rw [zLcK, er _ _ rfl]
    simp only [Rs.bnd_ok]
    have e4 : wipeE [some (.lst (ln.map dN)), some (.lst (lk.map pD)), some (dN n), none, none, none, none, none] [5] = [some (.lst (ln.map dN)), some (.lst (lk.map pD)), some (dN n), none, none, none, none, none] := rfl
    rw [e4, cell_loop (g := zgName 5) (env := [some (.lst (ln.map dN)), some (.lst (lk.map pD)), some (dN n), none, none, none, none, none]) (fe := zLcK .cel [6] (zRange1 (zCons (zVar 2) zNil)) (zgName 6) zYes (zC (.bl false))) (c0 := C.lst (bools n (fun _ _ => false) 0)) (fun d T => ⟨_, rfl, r1 (some d) T⟩) _ ((List.range n).map dN) [] S0 (by simp [bigN]; omega)]
    simp [Mk.res]
  have o2 : ∀ T : Sto, zLcK .cel [5] (zRange1 (zCons (zVar 2) zNil)) (zgName 5) zYes (zLstC zNil) [some (.lst (ln.map dN)), some (.lst (lk.map pD)), some (dN n), some (.ptr (S0.length + n)), none, none, none, none] T = .ok (.ptr (T.length + n)) (T ++ List.replicate n (C.lst []) ++ [C.lst ((List.range n).map fun y => .ptr (T.length + y))]) := fun T => by
    rw [zLcK, er _ _ rfl]
    simp only [Rs.bnd_ok]
    have e4 : wipeE [some (.lst (ln.map dN)), some (.lst (lk.map pD)), some (dN n), some (.ptr (S0.length + n)), none, none, none, none] [5] = [some (.lst (ln.map dN)), some (.lst (lk.map pD)), some (dN n), some (.ptr (S0.length + n)), none, none, none, none] := rfl
    rw [e4, cell_loop (g := zgName 5) (env := [some (.lst (ln.map dN)), some (.lst (lk.map pD)), some (dN n), some (.ptr (S0.length + n)), none, none, none, none]) (fe := zLstC zNil) (c0 := C.lst []) (fun d T => ⟨_, rfl, by simp [bigN]⟩) _ ((List.range n).map dN) [] T (by simp [bigN]; omega)]
    simp [Mk.res]
  generalize hT : (S0 ++ List.replicate n (C.lst (bools n (fun _ _ => false) 0)) ++ [C.lst ((List.range n).map fun y => .ptr (S0.length + y))]) ++ List.replicate n (C.lst []) ++ [C.lst ((List.range n).map fun y => .ptr (S0.length + n + 1 + y))] = T
  have m0 : MS S0 n (fun _ _ => false) (fun _ => []) (fun y => S0.length + y) T := by
    subst hT
    refine ⟨⟨_, by simp only [List.append_assoc]; rfl⟩, ?_, fun y hy => ?_, fun y hy => by omega, fun y z _ _ e => by omega, ?_, fun y hy => ?_⟩
    · simp only [List.append_assoc]
      rw [List.getElem?_append_right (by omega), Nat.add_sub_cancel_left, List.getElem?_append_right (by simp)]
      simp
    · simp only [List.append_assoc]
      rw [List.getElem?_append_right (by omega), Nat.add_sub_cancel_left, List.getElem?_append_left (by simpa using hy)]
      simp [hy, bools]
    · rw [List.getElem?_append_right (by simp; omega)]
      simp
      rw [show S0.length + 2 * n + 1 - (S0.length + (n + (n + 1))) = 0 by omega]
      rfl
    · rw [List.getElem?_append_left (by simp; omega), List.getElem?_append_right (by simp; omega)]
      simp only [List.length_append, List.length_replicate, List.length_cons, List.length_nil]
      rw [show S0.length + n + 1 + y - (S0.length + n + (0 + 1)) = y by omega, List.getElem?_replicate, if_pos hy]
      rfl
  obtain ⟨ah, T1, a, b, h1, h2, h3⟩ := lwA_ok hn hd hln hlk hl m0
  obtain ⟨r, row, T2, a', b', h4, h5, h6⟩ := lwD_ok hn hd hln (lk := lk) h2 (fun _ _ _ _ e => by cases e) h3 a b
  refine ⟨r, ah, row, T2, fun x hx => ?_, h5, ?_⟩
  · cases e : r x x with
    | false => rfl
    | true => exact ((h6 x x hx hx e).irr hd).elim
  · rw [run_lower_eq]
    refine seq_n (env' := [some (.lst (ln.map dN)), some (.lst (lk.map pD)), some (dN n), none, none, none, none, none]) (S' := S0) (by simp [dN, hlen]) ?_
    refine seq_n (set_n o1) ?_
    refine seq_n (set_n (o2 _)) ?_
    refine seq_n (env' := le S0 n ln lk a b) (S' := T1) ?_ (seq_n h4 (by simp [le]))
    refine Eq.trans ?_ h1
    subst hT
    simp [le, Nat.add_assoc, Nat.two_mul, Nat.add_left_comm, Nat.add_comm]
theorem eval_lower (hlen : ln.length = n) (hlk : lk.length ≤ 4096) (hl : ∀ p ∈ lk, LinkOk ln p) :
    ∃ r : Nat → Nat → Bool, (∀ x, x < n → r x x = false) ∧ F__law_lower [.lst (ln.map dN), .lst (lk.map pD)] S0 = .ok (.lst ((List.range n).map fun y => .lst (bools n r y))) S0 := by
  obtain ⟨r, ah, row, T2, h1, h5, h6⟩ := lower_ms (S0 := S0) hn hd hln hlen hlk hl
  obtain ⟨L, hL⟩ := h5.pre
  obtain ⟨L', hf⟩ := h5.frz
  refine ⟨r, h1, Fof_pure (L := L) (L' := L') (d := .ptr (S0.length + n)) (by rw [← hL]; exact h6) (by rw [← hL]; exact hf) (cls_map (f := fun y => D.lst (bools n r y)) (fun y => cls_map (f := fun z => D.bl (r y z)) (fun z => trivial) (List.range n)) (List.range n))⟩
end
end K06

namespace K06
open PySem L2 Z
open PySem.Spec PyProof.Rows
variable [Tabs]

def pre (k : Nat) (q : Nat → Nat → Bool) (i : Nat) : List (Nat × Nat) := (List.range i).flatMap fun x => ((List.range k).filter fun y => q x y).map fun y => (x, y)
theorem pre_all (k : Nat) (q : Nat → Nat → Bool) : pre k q k = canon k q := rfl
theorem pre_succ (k : Nat) (q : Nat → Nat → Bool) (i : Nat) : pre k q (i + 1) = pre k q i ++ ((List.range k).filter fun y => q i y).map fun y => (i, y) := by
  unfold pre
  rw [List.range_succ, List.flatMap_append]
  simp
theorem pre_len (k : Nat) (q : Nat → Nat → Bool) : ∀ i, (pre k q i).length ≤ i * k
  | 0 => by simp [pre]
  | i + 1 => by
    rw [pre_succ, List.length_append, List.length_map, Nat.succ_mul]
    have h1 := List.length_filter_le (fun y => q i y) (List.range k)
    have h2 := pre_len k q i
    simp at h1
    omega
def matD (n : Nat) (r : Nat → Nat → Bool) : D := .lst ((List.range n).map fun y => .lst (bools n r y))
theorem mat_get {n y : Nat} (r : Nat → Nat → Bool) (h : y < n) : L2.atI ((List.range n).map fun y => D.lst (bools n r y)) (y : Int) = some (.lst (bools n r y)) := atI_nat (by simp [h])
theorem eval_pairs {n : Nat} (hn : n ≤ 64) (r : Nat → Nat → Bool) (S : Sto) : F__law_pairs [matD n r] S = .ok (.tup ((canon n fun x y => r y x).map pD)) S := by
  obtain ⟨env', T', e1, e2, a, e3⟩ := forL_ind (s := ⟨(List.range n).map dN, none⟩) (g := zgName 2) (b := zSet 1 (zOp dAdd (zVar 1) (zLcK .frz [3] (zRange1 (zCons (zCall dLen (zCons (zVar 0) zNil)) zNil)) (zgName 3) (zTru (zOp dIx (zOp dIx (zVar 0) (zVar 3)) (zVar 2))) (zTup (zCons (zVar 2) (zCons (zVar 3) zNil))))))
    (fun i env T => T = S ∧ ∃ a, env = [some (matD n r), some (.lst ((pre n (fun x y => r y x) i).map pD)), a, none]) ((List.range n).map dN) 0 [some (matD n r), some (.lst []), none, none] S ⟨rfl, none, rfl⟩ (fun _ _ _ _ => rfl) (by
      rintro i d env T hi ⟨rfl, a, rfl⟩
      have hlt : i < n := by simpa using (List.getElem?_eq_some_iff.mp hi).1
      rw [List.getElem?_map, List.getElem?_range hlt] at hi
      cases hi
      have hp := pre_len n (fun x y => r y x) (0 + i)
      have hpm : (0 + i) * n ≤ 64 * 64 := Nat.mul_le_mul (by omega) hn
      have e : lcA ⟨(List.range n).map dN, none⟩ (zgName 3) (zTru (zOp dIx (zOp dIx (zVar 0) (zVar 3)) (zVar 2))) (zTup (zCons (zVar 2) (zCons (zVar 3) zNil))) [some (matD n r), some (.lst ((pre n (fun x y => r y x) (0 + i)).map pD)), some (dN i), none] ((List.range n).map dN) [] T = .ok ((((List.range n).filter fun y => r y i).map fun y => (i, y)).map pD) T := by
        rw [lcA_pure (p := fun y => r y i) (v := fun y => pD (i, y)) rfl (List.range n) [] (by simp [bigN]; omega) fun y hy => ?_]
        · simp [Function.comp_def]
        · have h1 := mat_get r (List.mem_range.mp hy)
          have h2 := bools_get r y hlt
          refine ⟨_, rfl, ?_, fun _ => by simp [pD, dN, bigN]⟩
          simp [matD, dN, h1, h2]
      refine ⟨_, _, T, rfl, .inl (set_n (d := .lst ((pre n (fun x y => r y x) (0 + i + 1)).map pD)) ?_), rfl, some (dN i), rfl⟩
      have e3 : zRange1 (zCons (zCall dLen (zCons (zVar 0) zNil)) zNil) [some (matD n r), some (.lst ((pre n (fun x y => r y x) (0 + i)).map pD)), some (dN i), none] T = .ok ⟨(List.range n).map dN, none⟩ T := by
        simp [zRange1, matD, show (n : Int) ≤ 1000000 by omega, show -1000000 ≤ (n : Int) by omega, rangeD_n]
      have e4 : zVar 1 [some (matD n r), some (.lst ((pre n (fun x y => r y x) (0 + i)).map pD)), some (dN i), none] T = .ok (.lst ((pre n (fun x y => r y x) (0 + i)).map pD)) T := rfl
      have e5 : wipeE [some (matD n r), some (.lst ((pre n (fun x y => r y x) (0 + i)).map pD)), some (dN i), none] [3] = [some (matD n r), some (.lst ((pre n (fun x y => r y x) (0 + i)).map pD)), some (dN i), none] := rfl
      show zOp dAdd _ _ [some (matD n r), some (.lst ((pre n (fun x y => r y x) (0 + i)).map pD)), some (dN i), none] T = _
      rw [zOp, e4]
      simp only [Rs.bnd_ok]
      rw [zLcK, e3]
      simp only [Rs.bnd_ok]
      rw [e5, e]
      simp only [Rs.bnd_ok, Mk.res]
      rw [pre_succ]
      have hf := List.length_filter_le (fun y => r y i) (List.range n)
      simp at hf
      simp only [Nat.zero_add] at hp hpm
      simp [dAdd, bigN]
      omega)
  refine Fof_ret0 ?_ (cls_map (cl_pD _) _)
  rw [e2, e3] at e1
  have e0 : zRange1 (zCons (zCall dLen (zCons (zVar 0) zNil)) zNil) [some (matD n r), some (.lst []), none, none] S = .ok ⟨(List.range n).map dN, none⟩ S := by
    simp [zRange1, matD, show (n : Int) ≤ 1000000 by omega, show -1000000 ≤ (n : Int) by omega, rangeD_n]
  unfold run__law_pairs
  refine seq_n (env' := [some (matD n r), some (.lst []), none, none]) (S' := S) (by simp [bigN]) ?_
  refine seq_n (env' := [some (matD n r), some (.lst ((pre n (fun x y => r y x) n).map pD)), a, none]) (S' := S) ?_ ?_
  · rw [zFor, e0]
    simpa using e1
  · rw [pre_all]
    simp
theorem eval_due {n : Nat} (r : Nat → Nat → Bool) {l : List Nat} (hl : ∀ x ∈ l, x < n) (hk : l.length ≤ 64) (S : Sto) : F__law_due [matD n r, .lst (l.map dN)] S = .ok (ordD l.length (canon l.length fun i j => r (ptAt l j) (ptAt l i))) S := by
  obtain ⟨env', T', e1, e2, a, e3⟩ := forL_ind (s := ⟨(List.range l.length).map dN, none⟩) (g := zgName 3) (b := zSet 2 (zOp dAdd (zVar 2) (zLcK .frz [4] (zRange1 (zCons (zCall dLen (zCons (zVar 1) zNil)) zNil)) (zgName 4) (zTru (zOp dIx (zOp dIx (zVar 0) (zOp dIx (zVar 1) (zVar 4))) (zOp dIx (zVar 1) (zVar 3)))) (zTup (zCons (zVar 3) (zCons (zVar 4) zNil))))))
    (fun i env T => T = S ∧ ∃ a, env = [some (matD n r), some (.lst (l.map dN)), some (.lst ((pre l.length (fun i j => r (ptAt l j) (ptAt l i)) i).map pD)), a, none]) ((List.range l.length).map dN) 0 [some (matD n r), some (.lst (l.map dN)), some (.lst []), none, none] S ⟨rfl, none, rfl⟩ (fun _ _ _ _ => rfl) (by
      rintro i d env T hi ⟨rfl, a, rfl⟩
      have hlt : i < l.length := by simpa using (List.getElem?_eq_some_iff.mp hi).1
      rw [List.getElem?_map, List.getElem?_range hlt] at hi
      cases hi
      have hp := pre_len l.length (fun i j => r (ptAt l j) (ptAt l i)) (0 + i)
      have hpm : (0 + i) * l.length ≤ 64 * 64 := Nat.mul_le_mul (by omega) hk
      have e : lcA ⟨(List.range l.length).map dN, none⟩ (zgName 4) (zTru (zOp dIx (zOp dIx (zVar 0) (zOp dIx (zVar 1) (zVar 4))) (zOp dIx (zVar 1) (zVar 3)))) (zTup (zCons (zVar 3) (zCons (zVar 4) zNil))) [some (matD n r), some (.lst (l.map dN)), some (.lst ((pre l.length (fun i j => r (ptAt l j) (ptAt l i)) (0 + i)).map pD)), some (dN i), none] ((List.range l.length).map dN) [] T = .ok ((((List.range l.length).filter fun j => r (ptAt l j) (ptAt l i)).map fun j => (i, j)).map pD) T := by
        rw [lcA_pure (p := fun j => r (ptAt l j) (ptAt l i)) (v := fun j => pD (i, j)) rfl (List.range l.length) [] (by simp [bigN]; omega) fun j hj => ?_]
        · simp [Function.comp_def]
        · have hj' := List.mem_range.mp hj
          have a1 := ptAt_I hlt
          have a2 := ptAt_I hj'
          have h1 := mat_get r (hl _ (ptAt_mem hj'))
          have h2 := bools_get r (ptAt l j) (hl _ (ptAt_mem hlt))
          simp only [dN] at a1 a2
          refine ⟨_, rfl, ?_, fun _ => by simp [pD, dN, bigN]⟩
          simp [matD, dN, a1, a2, h1, h2]
      refine ⟨_, _, T, rfl, .inl (set_n (d := .lst ((pre l.length (fun i j => r (ptAt l j) (ptAt l i)) (0 + i + 1)).map pD)) ?_), rfl, some (dN i), rfl⟩
      have e3 : zRange1 (zCons (zCall dLen (zCons (zVar 1) zNil)) zNil) [some (matD n r), some (.lst (l.map dN)), some (.lst ((pre l.length (fun i j => r (ptAt l j) (ptAt l i)) (0 + i)).map pD)), some (dN i), none] T = .ok ⟨(List.range l.length).map dN, none⟩ T := by
        simp [zRange1, show (l.length : Int) ≤ 1000000 by omega, show -1000000 ≤ (l.length : Int) by omega, rangeD_n]
      have e4 : zVar 2 [some (matD n r), some (.lst (l.map dN)), some (.lst ((pre l.length (fun i j => r (ptAt l j) (ptAt l i)) (0 + i)).map pD)), some (dN i), none] T = .ok (.lst ((pre l.length (fun i j => r (ptAt l j) (ptAt l i)) (0 + i)).map pD)) T := rfl
      have e5 : wipeE [some (matD n r), some (.lst (l.map dN)), some (.lst ((pre l.length (fun i j => r (ptAt l j) (ptAt l i)) (0 + i)).map pD)), some (dN i), none] [4] = [some (matD n r), some (.lst (l.map dN)), some (.lst ((pre l.length (fun i j => r (ptAt l j) (ptAt l i)) (0 + i)).map pD)), some (dN i), none] := rfl
      show zOp dAdd _ _ [some (matD n r), some (.lst (l.map dN)), some (.lst ((pre l.length (fun i j => r (ptAt l j) (ptAt l i)) (0 + i)).map pD)), some (dN i), none] T = _
      rw [zOp, e4]
      simp only [Rs.bnd_ok]
      rw [zLcK, e3]
      simp only [Rs.bnd_ok]
      rw [e5, e]
      simp only [Rs.bnd_ok, Mk.res]
      rw [pre_succ]
      have hf := List.length_filter_le (fun j => r (ptAt l j) (ptAt l i)) (List.range l.length)
      simp at hf
      simp only [Nat.zero_add] at hp hpm
      simp [dAdd, bigN]
      omega)
  refine Fof_ret0 ?_ (cl_ordD _ _ _)
  rw [e2, e3] at e1
  have e0 : zRange1 (zCons (zCall dLen (zCons (zVar 1) zNil)) zNil) [some (matD n r), some (.lst (l.map dN)), some (.lst []), none, none] S = .ok ⟨(List.range l.length).map dN, none⟩ S := by
    simp [zRange1, show (l.length : Int) ≤ 1000000 by omega, show -1000000 ≤ (l.length : Int) by omega, rangeD_n]
  unfold run__law_due
  refine seq_n (env' := [some (matD n r), some (.lst (l.map dN)), some (.lst []), none, none]) (S' := S) (by simp [bigN]) ?_
  refine seq_n (env' := [some (matD n r), some (.lst (l.map dN)), some (.lst ((pre l.length (fun i j => r (ptAt l j) (ptAt l i)) l.length).map pD)), a, none]) (S' := S) ?_ ?_
  · rw [zFor, e0]
    simpa using e1
  · rw [pre_all]
    simp [ordD, dN, bigN]
theorem dat_canon {n : Nat} (hn : n ≤ 64) (q : Nat → Nat → Bool) : Dat 8 (ordD n (canon n q)) := dat_ordD 4 n (Nat.le_trans (canon_len n q) (Nat.le_trans (Nat.mul_le_mul hn hn) (by decide)))
theorem canon_dec {n k : Nat} {q : Nat → Nat → Bool} {f g : Nat → Nat → Nat} (h : ∀ i j, i < k → j < k → f i j < n ∧ g i j < n) : canon k (fun i j => decide ((f i j, g i j) ∈ canon n q)) = canon k fun i j => q (f i j) (g i j) := by
  refine canon_congr fun x y hx hy => ?_
  obtain ⟨h1, h2⟩ := h x y hx hy
  rw [Bool.eq_iff_iff]
  simp only [decide_eq_true_eq]
  rw [mem_canon]
  exact ⟨fun h => h.2.2, fun h => ⟨h1, h2, h⟩⟩
theorem opp_canon {n : Nat} (hn : n ≤ 64) (q : Nat → Nat → Bool) (S : Sto) : F_opposite [ordD n (canon n q)] S = .ok (ordD n (canon n fun x y => q y x)) S := by
  rw [eval_opposite hn (fun p hp => by
    have := mem_canon.mp (show (p.1, p.2) ∈ canon n q from hp)
    exact ⟨this.1, this.2.1⟩) S, canon_dec (f := fun y x => x) (g := fun y x => y) fun i j hi hj => ⟨hj, hi⟩]
theorem ind_canon {n : Nat} (hn : n ≤ 64) (q : Nat → Nat → Bool) {l : List Nat} (hl : ∀ x ∈ l, x < n) (hk : l.length ≤ 64) (S : Sto) : F_induced [ordD n (canon n q), .tup (l.map dN)] S = .ok (ordD l.length (canon l.length fun i j => q (ptAt l i) (ptAt l j))) S := by
  rw [eval_induced hn (fun p hp => by
    have := mem_canon.mp (show (p.1, p.2) ∈ canon n q from hp)
    exact ⟨this.1, this.2.1⟩) hl hk S, canon_dec (f := fun i j => ptAt l i) (g := fun i j => ptAt l j) fun i j hi hj => ⟨hl _ (ptAt_mem hi), hl _ (ptAt_mem hj)⟩]
theorem alike_canon {n : Nat} (hn : n ≤ 64) (q : Nat → Nat → Bool) (S : Sto) : F__law_alike 8 [ordD n (canon n q), ordD n (canon n q)] S = .ok (.bl true) S := eval_alike 8 _ S (dat_canon hn q)
abbrev relD (n : Nat) (q : Nat → Nat → Bool) : D := ordD n (canon n q)
end K06

namespace K07
open PySem L2 Z K06
open PySem.Spec PyProof.Rows
variable [Tabs]
abbrev N_with_selves : List Str := ["masks", "x", "mask"]
noncomputable def run_with_selves : SM :=
    (zRet (zLcK .frz [1, 2] (zEnum (zCons (zVar 0) zNil)) (zgTup 2 (zgCons (zgName 1) (zgCons (zgName 2) zgNil))) zYes (zOp dOr (zVar 2) (zOp dShl (zC (.int 1)) (zVar 1)))))
noncomputable def F_with_selves : List D → Sto → Rs D := Fof 0 N_with_selves run_with_selves
abbrev N__law_listed : List Str := ["size", "is_under", "found", "x", "y"]
noncomputable def run__law_listed : SM :=
    (zSeq (zSet 2 (zLst zNil))
    (zSeq (zFor (zRange1 (zCons (zVar 0) zNil)) (zgName 3) (zSet 2 (zOp dAdd (zVar 2) (zLcK .frz [4] (zRange1 (zCons (zVar 0) zNil)) (zgName 4) (zTru (zOp dIx (zOp dIx (zVar 1) (zVar 3)) (zVar 4))) (zTup (zCons (zVar 3) (zCons (zVar 4) zNil)))))))
    (zRet (zTup (zCons (zVar 0) (zCons (zCall dTuple (zCons (zVar 2) zNil)) zNil))))))
noncomputable def F__law_listed : List D → Sto → Rs D := Fof 0 N__law_listed run__law_listed
abbrev N__law_known : List Str := ["order", "n", "lower", "x", "y"]
noncomputable def run__law_known : SM :=
    (zSeq (zSet 1 (zOp dIx (zVar 0) (zC (.int 0))))
    (zSeq (zSet 2 (zLcK .cel [4] (zRange1 (zCons (zVar 1) zNil)) (zgName 4) zYes (zLcK .cel [3] (zRange1 (zCons (zVar 1) zNil)) (zgName 3) zYes (zC (.bl false)))))
    (zSeq (zFor (zSrc (zOp dIx (zVar 0) (zC (.int 1)))) (zgTup 2 (zgCons (zgName 3) (zgCons (zgName 4) zgNil))) (zPut (zOp dIx (zVar 2) (zVar 4)) (zVar 3) (zC (.bl true))))
    (zRet (zTup (zCons (zVar 0) (zCons (zVar 2) zNil)))))))
noncomputable def F__law_known : List D → Sto → Rs D := Fof 3 N__law_known run__law_known
abbrev N_product : List Str := ["first", "second", "n", "m", "left", "right", "rows", "pairs", "x", "q", "y", "r"]
noncomputable def run_product : SM :=
    (zSeq (zSet 2 (zOp dIx (zVar 0) (zC (.int 0))))
    (zSeq (zSet 3 (zOp dIx (zVar 1) (zC (.int 0))))
    (zSeq (zExpr (zCallF 1 F__check_size (zCons (zOp dMul (zVar 2) (zVar 3)) zNil)))
    (zSeq (zSet 4 (zCallF 1 F_with_selves (zCons (zCallF 1 F_masks_above (zCons (zVar 0) zNil)) zNil)))
    (zSeq (zSet 5 (zCallF 1 F_with_selves (zCons (zCallF 1 F_masks_above (zCons (zVar 1) zNil)) zNil)))
    (zSeq (zSet 6 (zLc2K .frz [8, 9] [9] (zRange1 (zCons (zVar 2) zNil)) (zgName 8) zYes (zRange1 (zCons (zVar 3) zNil)) (zgName 9) zYes (zTup (zCons (zVar 8) (zCons (zVar 9) zNil)))))
    (zSeq (zSet 7 (zLc2K .frz [8, 9, 10, 11] [10, 11] (zSrc (zVar 6)) (zgTup 2 (zgCons (zgName 8) (zgCons (zgName 9) zgNil))) zYes (zSrc (zVar 6)) (zgTup 2 (zgCons (zgName 10) (zgCons (zgName 11) zgNil))) (zAnd (zB (zOp dNe (zTup (zCons (zVar 8) (zCons (zVar 9) zNil))) (zTup (zCons (zVar 10) (zCons (zVar 11) zNil))))) (zAnd (zTru (zOp dAnd (zOp dShr (zOp dIx (zVar 4) (zVar 8)) (zVar 10)) (zC (.int 1)))) (zTru (zOp dAnd (zOp dShr (zOp dIx (zVar 5) (zVar 9)) (zVar 11)) (zC (.int 1)))))) (zTup (zCons (zOp dAdd (zOp dMul (zVar 8) (zVar 3)) (zVar 9)) (zCons (zOp dAdd (zOp dMul (zVar 10) (zVar 3)) (zVar 11)) zNil)))))
    (zRet (zTup (zCons (zOp dMul (zVar 2) (zVar 3)) (zCons (zCall dTuple (zCons (zVar 7) zNil)) zNil)))))))))))
noncomputable def F_product : List D → Sto → Rs D := Fof 0 N_product run_product
abbrev N__law_joined_up : List Str := ["first", "second", "is_on_top", "n", "size", "table", "x", "row", "y"]
noncomputable def run__law_joined_up : SM :=
    (zSeq (zSet 3 (zOp dIx (zOp dIx (zVar 0) (zC (.int 0))) (zC (.int 0))))
    (zSeq (zSet 4 (zOp dAdd (zVar 3) (zOp dIx (zOp dIx (zVar 1) (zC (.int 0))) (zC (.int 0)))))
    (zSeq (zSet 5 (zLstC zNil))
    (zSeq (zFor (zRange1 (zCons (zVar 4) zNil)) (zgName 6) (zSeq (zSet 7 (zLstC zNil))
    (zSeq (zFor (zRange1 (zCons (zVar 4) zNil)) (zgName 8) (zIfS (zAnd (zB (zOp dLt (zVar 6) (zVar 3))) (zB (zOp dLt (zVar 8) (zVar 3)))) (zExpr (zMethL dAppend (zVar 7) (zCons (zOp dIx (zOp dIx (zOp dIx (zVar 0) (zC (.int 1))) (zVar 8)) (zVar 6)) zNil))) (zIfS (zOr (zB (zOp dLt (zVar 6) (zVar 3))) (zB (zOp dLt (zVar 8) (zVar 3)))) (zExpr (zMethL dAppend (zVar 7) (zCons (zAndV (zVar 2) (zOp dLt (zVar 6) (zVar 3))) zNil))) (zExpr (zMethL dAppend (zVar 7) (zCons (zOp dIx (zOp dIx (zOp dIx (zVar 1) (zC (.int 1))) (zOp dSub (zVar 8) (zVar 3))) (zOp dSub (zVar 6) (zVar 3))) zNil))))))
    (zExpr (zMethL dAppend (zVar 5) (zCons (zVar 7) zNil))))))
    (zRet (zCallF 2 F__law_listed (zCons (zVar 4) (zCons (zVar 5) zNil))))))))
noncomputable def F__law_joined_up : List D → Sto → Rs D := Fof 0 N__law_joined_up run__law_joined_up
abbrev N__law_times : List Str := ["first", "second", "n", "m", "table", "x", "q", "row", "y", "is_first", "r"]
noncomputable def run__law_times : SM :=
    (zSeq (zSet 2 (zOp dIx (zOp dIx (zVar 0) (zC (.int 0))) (zC (.int 0))))
    (zSeq (zSet 3 (zOp dIx (zOp dIx (zVar 1) (zC (.int 0))) (zC (.int 0))))
    (zSeq (zSet 4 (zLstC zNil))
    (zSeq (zFor (zRange1 (zCons (zVar 2) zNil)) (zgName 5) (zFor (zRange1 (zCons (zVar 3) zNil)) (zgName 6) (zSeq (zSet 7 (zLst zNil))
    (zSeq (zFor (zRange1 (zCons (zVar 2) zNil)) (zgName 8) (zSeq (zSet 9 (zOrV (zOp dEq (zVar 5) (zVar 8)) (zOp dIx (zOp dIx (zOp dIx (zVar 0) (zC (.int 1))) (zVar 8)) (zVar 5))))
    (zSet 7 (zOp dAdd (zVar 7) (zLcK .frz [10] (zRange1 (zCons (zVar 3) zNil)) (zgName 10) zYes (zAndV (zVar 9) (zAndV (zOrV (zOp dEq (zVar 6) (zVar 10)) (zOp dIx (zOp dIx (zOp dIx (zVar 1) (zC (.int 1))) (zVar 10)) (zVar 6))) (zOrV (zOp dNe (zVar 5) (zVar 8)) (zOp dNe (zVar 6) (zVar 10))))))))))
    (zExpr (zMethL dAppend (zVar 4) (zCons (zVar 7) zNil)))))))
    (zRet (zCallF 2 F__law_listed (zCons (zOp dMul (zVar 2) (zVar 3)) (zCons (zVar 4) zNil))))))))
noncomputable def F__law_times : List D → Sto → Rs D := Fof 0 N__law_times run__law_times
abbrev N__law_some : List Str := ["box", "n", "line", "lower"]
noncomputable def run__law_some : SM :=
    (zSeq (zSet 2 (zCallF 2 F__law_line (zCons (zVar 0) (zCons (zVar 1) zNil))))
    (zSeq (zSet 3 (zCallF 2 F__law_lower (zCons (zVar 2) (zCons (zCallF 2 F__law_linked (zCons (zVar 0) (zCons (zVar 2) zNil))) zNil))))
    (zRet (zTup (zCons (zTup (zCons (zVar 1) (zCons (zCallF 1 F__law_pairs (zCons (zVar 3) zNil)) zNil))) (zCons (zVar 3) zNil))))))
noncomputable def F__law_some : List D → Sto → Rs D := Fof 0 N__law_some run__law_some
abbrev N__moved : List Str := ["order", "by", "x", "y"]
noncomputable def run__moved : SM :=
    (zRet (zTG [2, 3] (zSrc (zOp dIx (zVar 0) (zC (.int 1)))) (zgTup 2 (zgCons (zgName 2) (zgCons (zgName 3) zgNil))) zYes (zTup (zCons (zOp dAdd (zVar 2) (zVar 1)) (zCons (zOp dAdd (zVar 3) (zVar 1)) zNil)))))
noncomputable def F__moved : List D → Sto → Rs D := Fof 0 N__moved run__moved
abbrev N_beside : List Str := ["first", "second", "n"]
noncomputable def run_beside : SM :=
    (zSeq (zSet 2 (zOp dAdd (zOp dIx (zVar 0) (zC (.int 0))) (zOp dIx (zVar 1) (zC (.int 0)))))
    (zSeq (zExpr (zCallF 1 F__check_size (zCons (zVar 2) zNil)))
    (zRet (zTup (zCons (zVar 2) (zCons (zOp dAdd (zOp dIx (zVar 0) (zC (.int 1))) (zCallF 2 F__moved (zCons (zVar 1) (zCons (zOp dIx (zVar 0) (zC (.int 0))) zNil)))) zNil))))))
noncomputable def F_beside : List D → Sto → Rs D := Fof 0 N_beside run_beside
abbrev N_on_top : List Str := ["first", "second", "low", "n", "between", "x", "y"]
noncomputable def run_on_top : SM :=
    (zSeq (zSet 2 (zOp dIx (zVar 0) (zC (.int 0))))
    (zSeq (zSet 3 (zOp dAdd (zVar 2) (zOp dIx (zVar 1) (zC (.int 0)))))
    (zSeq (zExpr (zCallF 1 F__check_size (zCons (zVar 3) zNil)))
    (zSeq (zSet 4 (zLc2K .frz [5, 6] [6] (zRange1 (zCons (zVar 2) zNil)) (zgName 5) zYes (zRange2 (zCons (zVar 2) (zCons (zVar 3) zNil))) (zgName 6) zYes (zTup (zCons (zVar 5) (zCons (zVar 6) zNil)))))
    (zRet (zTup (zCons (zVar 3) (zCons (zOp dAdd (zCall dTuple (zCons (zCall dSorted (zCons (zLst (zStar (zOp dIx (zVar 0) (zC (.int 1))) (zStar (zVar 4) zNil))) zNil)) zNil)) (zCallF 2 F__moved (zCons (zVar 1) (zCons (zVar 2) zNil)))) zNil))))))))
noncomputable def F_on_top : List D → Sto → Rs D := Fof 0 N_on_top run_on_top
abbrev N__law_right : List Str := ["first", "second", "one", "other", "due"]
noncomputable def run__law_right : SM :=
    (zSeq (zSet 2 (zOp dIx (zVar 0) (zC (.int 0))))
    (zSeq (zSet 3 (zOp dIx (zVar 1) (zC (.int 0))))
    (zSeq (zSet 4 (zLst (zCons (zCallF 3 F__law_joined_up (zCons (zVar 0) (zCons (zVar 1) (zCons (zC (.bl false)) zNil)))) (zCons (zCallF 3 F__law_joined_up (zCons (zVar 0) (zCons (zVar 1) (zCons (zC (.bl true)) zNil)))) zNil))))
    (zSeq (zIfS (zNot (zTru (zCallF 2 (F__law_alike 8) (zCons (zLst (zCons (zCallF 2 F_beside (zCons (zVar 2) (zCons (zVar 3) zNil))) (zCons (zCallF 2 F_on_top (zCons (zVar 2) (zCons (zVar 3) zNil))) zNil))) (zCons (zVar 4) zNil))))) (zRet (zC (.bl false))) zNext)
    (zSeq (zIfS (zNot (zTru (zCallF 2 (F__law_alike 8) (zCons (zLst (zCons (zCallK 2 F_beside [1, 0] zNil (zCons (zVar 3) (zCons (zVar 2) zNil))) (zCons (zCallK 2 F_on_top [1, 0] zNil (zCons (zVar 3) (zCons (zVar 2) zNil))) zNil))) (zCons (zVar 4) zNil))))) (zRet (zC (.bl false))) zNext)
    (zSeq (zIfS (zB (zOp dGt (zOp dMul (zOp dIx (zVar 2) (zC (.int 0))) (zOp dIx (zVar 3) (zC (.int 0)))) (zC (.int 64)))) (zRet (zC (.bl true))) zNext)
    (zSeq (zSet 4 (zCallF 2 F__law_times (zCons (zVar 0) (zCons (zVar 1) zNil))))
    (zRet (zCallF 2 (F__law_alike 8) (zCons (zLst (zCons (zCallF 2 F_product (zCons (zVar 2) (zCons (zVar 3) zNil))) (zCons (zCallK 2 F_product [1, 0] zNil (zCons (zVar 3) (zCons (zVar 2) zNil))) zNil))) (zCons (zLst (zCons (zVar 4) (zCons (zVar 4) zNil))) zNil)))))))))))
noncomputable def F__law_right : List D → Sto → Rs D := Fof 0 N__law_right run__law_right
abbrev N__law_three : List Str := ["first", "second", "third", "due", "one", "other", "last"]
noncomputable def run__law_three : SM :=
    (zSeq (zAsg (zLst (zCons (zOp dIx (zVar 0) (zC (.int 0))) (zCons (zOp dIx (zVar 1) (zC (.int 0))) (zCons (zOp dIx (zVar 2) (zC (.int 0))) zNil)))) (zgUnl 3 (zgCons (zgName 4) (zgCons (zgName 5) (zgCons (zgName 6) zgNil)))))
    (zSeq (zSet 3 (zCallF 3 F__law_joined_up (zCons (zCallF 1 F__law_known (zCons (zCallF 3 F__law_joined_up (zCons (zVar 0) (zCons (zVar 1) (zCons (zC (.bl false)) zNil)))) zNil)) (zCons (zVar 2) (zCons (zC (.bl false)) zNil)))))
    (zSeq (zIfS (zNot (zTru (zCallF 2 (F__law_alike 8) (zCons (zLst (zCons (zCallF 2 F_beside (zCons (zCallF 2 F_beside (zCons (zVar 4) (zCons (zVar 5) zNil))) (zCons (zVar 6) zNil))) (zCons (zCallF 2 F_beside (zCons (zVar 4) (zCons (zCallF 2 F_beside (zCons (zVar 5) (zCons (zVar 6) zNil))) zNil))) zNil))) (zCons (zLst (zCons (zVar 3) (zCons (zVar 3) zNil))) zNil))))) (zRet (zC (.bl false))) zNext)
    (zSeq (zSet 3 (zCallF 3 F__law_joined_up (zCons (zCallF 1 F__law_known (zCons (zCallF 3 F__law_joined_up (zCons (zVar 0) (zCons (zVar 1) (zCons (zC (.bl true)) zNil)))) zNil)) (zCons (zVar 2) (zCons (zC (.bl true)) zNil)))))
    (zSeq (zIfS (zNot (zTru (zCallF 2 (F__law_alike 8) (zCons (zLst (zCons (zCallF 2 F_on_top (zCons (zCallF 2 F_on_top (zCons (zVar 4) (zCons (zVar 5) zNil))) (zCons (zVar 6) zNil))) (zCons (zCallF 2 F_on_top (zCons (zVar 4) (zCons (zCallF 2 F_on_top (zCons (zVar 5) (zCons (zVar 6) zNil))) zNil))) zNil))) (zCons (zLst (zCons (zVar 3) (zCons (zVar 3) zNil))) zNil))))) (zRet (zC (.bl false))) zNext)
    (zSeq (zIfS (zOr (zB (zOp dGt (zOp dMul (zOp dIx (zVar 4) (zC (.int 0))) (zOp dIx (zVar 5) (zC (.int 0)))) (zC (.int 32)))) (zOr (zB (zOp dGt (zOp dMul (zOp dIx (zVar 5) (zC (.int 0))) (zOp dIx (zVar 6) (zC (.int 0)))) (zC (.int 32)))) (zB (zOp dGt (zOp dMul (zOp dMul (zOp dIx (zVar 4) (zC (.int 0))) (zOp dIx (zVar 5) (zC (.int 0)))) (zOp dIx (zVar 6) (zC (.int 0)))) (zC (.int 32)))))) (zRet (zC (.bl true))) zNext)
    (zSeq (zSet 3 (zCallF 2 F__law_times (zCons (zCallF 1 F__law_known (zCons (zCallF 2 F__law_times (zCons (zVar 0) (zCons (zVar 1) zNil))) zNil)) (zCons (zVar 2) zNil))))
    (zRet (zCallF 2 (F__law_alike 8) (zCons (zLst (zCons (zCallF 2 F_product (zCons (zCallF 2 F_product (zCons (zVar 4) (zCons (zVar 5) zNil))) (zCons (zVar 6) zNil))) (zCons (zCallF 2 F_product (zCons (zVar 4) (zCons (zCallF 2 F_product (zCons (zVar 5) (zCons (zVar 6) zNil))) zNil))) zNil))) (zCons (zLst (zCons (zVar 3) (zCons (zVar 3) zNil))) zNil)))))))))))
noncomputable def F__law_three : List D → Sto → Rs D := Fof 0 N__law_three run__law_three
abbrev N_law : List Str := ["script", "box", "some", "nothing", "single", "both", "first", "second", "k"]
noncomputable def run_law : SM :=
    (zSeq (zSet 1 (zCallF 1 F__law_box (zCons (zVar 0) zNil)))
    (zSeq (zIfS (zB (zOp dEq (zCallF 2 F__law_draw (zCons (zVar 1) (zCons (zC (.int 8)) zNil))) (zC (.int 0)))) (zSeq (zSet 6 (zCallF 2 F__law_some (zCons (zVar 1) (zCons (zCallF 2 F__law_draw (zCons (zVar 1) (zCons (zC (.int 33)) zNil))) zNil))))
    (zRet (zCallF 2 F__law_right (zCons (zVar 6) (zCons (zCallF 2 F__law_some (zCons (zVar 1) (zCons (zCallF 2 F__law_draw (zCons (zVar 1) (zCons (zC (.int 33)) zNil))) zNil))) zNil))))) zNext)
    (zSeq (zSet 2 (zLcK .frz [8] (zRange1 (zCons (zC (.int 3)) zNil)) (zgName 8) zYes (zCallF 2 F__law_some (zCons (zVar 1) (zCons (zCallF 2 F__law_draw (zCons (zVar 1) (zCons (zOp dIx (zLst (zCons (zC (.int 3)) (zCons (zC (.int 5)) (zCons (zC (.int 8)) zNil)))) (zCallF 2 F__law_draw (zCons (zVar 1) (zCons (zC (.int 3)) zNil)))) zNil))) zNil)))))
    (zSeq (zSet 3 (zTup (zCons (zTup (zCons (zC (.int 0)) (zCons (zTup zNil) zNil))) (zCons (zLst zNil) zNil))))
    (zSeq (zSet 4 (zTup (zCons (zTup (zCons (zC (.int 1)) (zCons (zTup zNil) zNil))) (zCons (zLst (zCons (zLst (zCons (zC (.bl false)) zNil)) zNil)) zNil))))
    (zSeq (zSet 5 (zLst (zCons (zTup (zCons (zOp dIx (zVar 2) (zC (.int 0))) (zCons (zOp dIx (zVar 2) (zC (.int 1))) zNil))) (zCons (zTup (zCons (zOp dIx (zVar 2) (zC (.int 1))) (zCons (zOp dIx (zVar 2) (zC (.int 0))) zNil))) (zCons (zTup (zCons (zOp dIx (zVar 2) (zC (.int 2))) (zCons (zOp dIx (zVar 2) (zC (.int 2))) zNil))) (zCons (zTup (zCons (zOp dIx (zVar 2) (zC (.int 0))) (zCons (zVar 3) zNil))) (zCons (zTup (zCons (zVar 3) (zCons (zOp dIx (zVar 2) (zC (.int 1))) zNil))) zNil)))))))
    (zSeq (zFor (zSrc (zVar 5)) (zgTup 2 (zgCons (zgName 6) (zgCons (zgName 7) zgNil))) (zIfS (zNot (zTru (zCallF 2 F__law_right (zCons (zVar 6) (zCons (zVar 7) zNil))))) (zRet (zC (.bl false))) zNext))
    (zSeq (zIfS (zOr (zNot (zTru (zCallF 2 F__law_right (zCons (zVar 4) (zCons (zOp dIx (zVar 2) (zC (.int 2))) zNil))))) (zNot (zTru (zCallF 2 F__law_right (zCons (zOp dIx (zVar 2) (zC (.int 2))) (zCons (zVar 4) zNil)))))) (zRet (zC (.bl false))) zNext)
    (zRet (zCallF 3 F__law_three (zCons (zOp dIx (zVar 2) (zC (.int 0))) (zCons (zOp dIx (zVar 2) (zC (.int 1))) (zCons (zOp dIx (zVar 2) (zC (.int 2))) zNil)))))))))))))
noncomputable def F_law : List D → Sto → Rs D := Fof 0 N_law run_law
end K07

namespace Z
open PySem L2
open PySem.Spec PyProof.Rows
variable [Tabs]
section
variable {α β : Type} {L : List α} {L1 : α → List β} {mk : α → D} {mk1 : β → D} {p1 : α → β → Bool} {v : α → β → D} {c : Nat} {vs vs1 : List Nat} {fi fi1 : EI} {g g1 : GM} {ft ft1 : EM Bool} {fe : EM D} {env : En} {S S1 : Sto}
theorem lcK2_pure (hi : fi env S = .ok ⟨L.map mk, none⟩ S1) (hb : L.length * c ≤ bigN)
    (h : ∀ a ∈ L, ∃ env1, g (mk a) (wipeE env vs) = some env1 ∧ ft env1 S1 = .ok true S1 ∧ fi1 env1 S1 = .ok ⟨(L1 a).map mk1, none⟩ S1 ∧ (L1 a).length ≤ c ∧ ∀ b ∈ L1 a, ∃ env2, g1 (mk1 b) (wipeE env1 vs1) = some env2 ∧ ft1 env2 S1 = .ok (p1 a b) S1 ∧ (p1 a b = true → fe env2 S1 = .ok (v a b) S1)) :
    zLc2K .frz vs vs1 fi g ft fi1 g1 ft1 fe env S = .ok (.lst (L.flatMap fun a => ((L1 a).filter (p1 a)).map (v a))) S1 := by
  rw [zLc2K, hi, Rs.bnd_ok]
  show ((lcB ⟨L.map mk, none⟩ g ft fi1 g1 ft1 fe vs1 (wipeE env vs) (L.map mk) [] S1).bnd Mk.frz.res) = _
  rw [lcB_pure (c := c) (w := fun a => ((L1 a).filter (p1 a)).map (v a)) rfl L [] (by simpa using hb) fun a ha => ?_]
  · rfl
  · obtain ⟨env1, h1, h2, h3, h4, h5⟩ := h a ha
    refine ⟨env1, h1, h2, _, h3, ?_, fun acc hacc => lcA_pure (p := p1 a) (v := v a) rfl (L1 a) acc (by omega) h5⟩
    rw [List.length_map]
    exact Nat.le_trans (List.length_filter_le _ _) h4
end
end Z
namespace K07
open PySem L2 Z K06
open PySem.Spec PyProof.Rows
variable [Tabs]
theorem ca_lt {n : Nat} {q : Nat → Nat → Bool} {p : Nat × Nat} (hp : p ∈ canon n q) : p.1 < n ∧ p.2 < n := by
  have := mem_canon.mp (show (p.1, p.2) ∈ canon n q from hp)
  exact ⟨this.1, this.2.1⟩
theorem ca_big {n : Nat} (hn : n ≤ 64) (q : Nat → Nat → Bool) : (canon n q).length ≤ 4096 := Nat.le_trans (canon_len n q) (Nat.mul_le_mul hn hn)
def bes (n : Nat) (q p : Nat → Nat → Bool) (x y : Nat) : Bool := (decide (x < n) && decide (y < n) && q x y) || (decide (n ≤ x) && decide (n ≤ y) && p (x - n) (y - n))
def top (n : Nat) (q p : Nat → Nat → Bool) (x y : Nat) : Bool := bes n q p x y || (decide (x < n) && decide (n ≤ y))
def prd (m : Nat) (q p : Nat → Nat → Bool) (i j : Nat) : Bool := !decide (i = j) && (decide (i / m = j / m) || q (i / m) (j / m)) && (decide (i % m = j % m) || p (i % m) (j % m))
def sh (n : Nat) (e : Nat × Nat) : Nat × Nat := (e.1 + n, e.2 + n)
theorem sh_lex {n : Nat} {l : List (Nat × Nat)} (h : l.Pairwise lexLt) : (l.map (sh n)).Pairwise lexLt := by
  rw [List.pairwise_map]
  refine h.imp fun {a b} h => ?_
  unfold Z.lexLt sh at *
  simp only
  omega
theorem mem_sh {n m : Nat} {p : Nat → Nat → Bool} {x y : Nat} : (x, y) ∈ (canon m p).map (sh n) ↔ n ≤ x ∧ n ≤ y ∧ x < n + m ∧ y < n + m ∧ p (x - n) (y - n) = true := by
  rw [List.mem_map]
  constructor
  · rintro ⟨⟨a, b⟩, h, e⟩
    have h := mem_canon.mp h
    unfold sh at e
    simp only [Prod.mk.injEq] at e
    obtain ⟨rfl, rfl⟩ := e
    exact ⟨by omega, by omega, by omega, by omega, by simpa using h.2.2⟩
  · rintro ⟨h1, h2, h3, h4, h5⟩
    exact ⟨(x - n, y - n), mem_canon.mpr ⟨by omega, by omega, h5⟩, by unfold sh; simp only [Prod.mk.injEq]; omega⟩
theorem canon_bes (n m : Nat) (q p : Nat → Nat → Bool) : canon (n + m) (bes n q p) = canon n q ++ (canon m p).map (sh n) := by
  refine lex_ext (canon_lex _ _) (List.pairwise_append.mpr ⟨canon_lex n q, sh_lex (canon_lex m p), fun a ha b hb => ?_⟩) fun ⟨x, y⟩ => ?_
  · have h1 := (ca_lt ha).1
    have h2 := (mem_sh.mp (show (b.1, b.2) ∈ _ from hb)).1
    exact .inl (by omega)
  · rw [List.mem_append, mem_canon, mem_canon, mem_sh]
    simp only [bes, Bool.or_eq_true, Bool.and_eq_true, decide_eq_true_eq]
    constructor
    · rintro ⟨h1, h2, ⟨⟨a, b⟩, c⟩ | ⟨⟨a, b⟩, c⟩⟩
      · exact .inl ⟨a, b, c⟩
      · exact .inr ⟨a, b, h1, h2, c⟩
    · rintro (⟨a, b, c⟩ | ⟨a, b, c, d, e⟩)
      · exact ⟨by omega, by omega, .inl ⟨⟨a, b⟩, c⟩⟩
      · exact ⟨c, d, .inr ⟨⟨a, b⟩, e⟩⟩
/-- what lies between: each of the lower part below each of the upper one -/
def btw (n m : Nat) : List (Nat × Nat) := (List.range n).flatMap fun x => (List.range' n m).map fun y => (x, y)
theorem mem_btw {n m x y : Nat} : (x, y) ∈ btw n m ↔ x < n ∧ n ≤ y ∧ y < n + m := by
  unfold btw
  simp only [List.mem_flatMap, List.mem_map, List.mem_range, List.mem_range'_1, Prod.mk.injEq]
  constructor
  · rintro ⟨a, h, b, ⟨h1, h2⟩, rfl, rfl⟩
    exact ⟨h, h1, h2⟩
  · rintro ⟨h, h1, h2⟩
    exact ⟨x, h, y, ⟨h1, h2⟩, rfl, rfl⟩
theorem btw_lex (n m : Nat) : (btw n m).Pairwise lexLt := by
  unfold btw
  rw [List.pairwise_flatMap]
  refine ⟨fun x _ => ?_, List.pairwise_lt_range.imp fun {a b} h p hp p' hp' => ?_⟩
  · rw [List.pairwise_map]
    exact (List.pairwise_lt_range' (s := n) (n := m)).imp fun h => .inr ⟨rfl, h⟩
  · obtain ⟨_, _, rfl⟩ := List.mem_map.mp hp
    obtain ⟨_, _, rfl⟩ := List.mem_map.mp hp'
    exact .inl h
theorem lex_ne {l : List (Nat × Nat)} (h : l.Pairwise lexLt) : l.Pairwise (· ≠ ·) := h.imp fun {a b} h e => by
  subst e
  unfold Z.lexLt at h
  omega
theorem canon_top (n m : Nat) (q p : Nat → Nat → Bool) : (canon (n + m) (top n q p)).map pD = (sortP ((canon n q ++ btw n m).map toI)).map Z.pairD ++ ((canon m p).map (sh n)).map pD := by
  obtain ⟨ls, h1, h2, h3⟩ := sort_nat (canon n q ++ btw n m)
  rw [h1, ← List.map_append]
  congr 1
  have dist : (canon n q ++ btw n m).Pairwise (· ≠ ·) := List.pairwise_append.mpr ⟨lex_ne (canon_lex n q), lex_ne (btw_lex n m), fun a ha b hb e => by
    subst e
    have h4 := (ca_lt ha).2
    have h5 := (mem_btw.mp (show (a.1, a.2) ∈ _ from hb)).2.1
    omega⟩
  have nd : ls.Nodup := h2.nodup_iff.mpr dist
  have ml : ∀ x y, (x, y) ∈ ls ↔ (x < n ∧ y < n ∧ q x y = true) ∨ (x < n ∧ n ≤ y ∧ y < n + m) := fun x y => by
    rw [h2.mem_iff, List.mem_append, mem_canon, mem_btw]
  refine lex_ext (canon_lex _ _) (List.pairwise_append.mpr ⟨(List.Pairwise.and h3 nd).imp fun {a b} h => h.1.resolve_left h.2, sh_lex (canon_lex m p), fun a ha b hb => ?_⟩) fun ⟨x, y⟩ => ?_
  · have h4 := (ml a.1 a.2).mp ha
    have h5 := (mem_sh.mp (show (b.1, b.2) ∈ _ from hb)).1
    refine .inl ?_
    rcases h4 with h4 | h4 <;> omega
  · rw [List.mem_append, mem_canon, ml, mem_sh]
    simp only [top, bes, Bool.or_eq_true, Bool.and_eq_true, decide_eq_true_eq]
    constructor
    · rintro ⟨h1, h2, (⟨⟨a, b⟩, c⟩ | ⟨⟨a, b⟩, c⟩) | ⟨a, b⟩⟩
      · exact .inl (.inl ⟨a, b, c⟩)
      · exact .inr ⟨a, b, h1, h2, c⟩
      · exact .inl (.inr ⟨a, b, h2⟩)
    · rintro ((⟨a, b, c⟩ | ⟨a, b, c⟩) | ⟨a, b, c, d, e⟩)
      · exact ⟨by omega, by omega, .inl (.inl ⟨⟨a, b⟩, c⟩)⟩
      · exact ⟨by omega, c, .inr ⟨a, b⟩⟩
      · exact ⟨c, d, .inl (.inr ⟨⟨a, b⟩, e⟩)⟩
/-! ### the package -/
theorem ord_ix {n : Nat} {P : List (Nat × Nat)} {env : En} {S : Sto} {i : Nat} (h : env[i]? = some (some (ordD n P))) : zOp dIx (zVar i) (zC (.int 0)) env S = .ok (dN n) S ∧ zOp dIx (zVar i) (zC (.int 1)) env S = .ok (.tup (P.map pD)) S :=
  ⟨op_n (d := ordD n P) (by rw [zVar, h]) rfl rfl, op_n (d := ordD n P) (by rw [zVar, h]) rfl rfl⟩
theorem add_N (a b : Nat) (S : Sto) : dAdd (dN a) (dN b) S = .ok (dN (a + b)) S := by
  show (Rs.ok (D.int ((a : Int) + (b : Int))) S : Rs D) = _
  rw [dN, Int.natCast_add]
theorem tups_add {xs ys : List D} (h : xs.length + ys.length ≤ bigN) (S : Sto) : dAdd (.tup xs) (.tup ys) S = .ok (.tup (xs ++ ys)) S := by
  unfold dAdd
  simp only [if_pos h]
theorem eval_moved {m n : Nat} (hm : m ≤ 64) (p : Nat → Nat → Bool) (S : Sto) : F__moved [relD m p, dN n] S = .ok (.tup (((canon m p).map (sh n)).map pD)) S := by
  refine Fof_ret0 (ret_n ?_) (cls_map (f := pD) (cl_pD _) _)
  rw [tG_pure (L := canon m p) (mk := pD) (v := fun e => pD (sh n e)) (p := fun _ => true) (src_t (ord_ix (i := 0) rfl).2) (by have := ca_big hm p; unfold bigN; omega) fun e he => ⟨[some (relD m p), some (dN n), some (dN e.1), some (dN e.2)], rfl, rfl, fun _ => tup2_n (op_n rfl rfl (add_N _ _ _)) (op_n rfl rfl (add_N _ _ _))⟩]
  rw [filter_tt, List.map_map]
  rfl
theorem eval_beside {n m : Nat} (h : n + m ≤ 64) (q p : Nat → Nat → Bool) (S : Sto) : F_beside [relD n q, relD m p] S = .ok (relD (n + m) (bes n q p)) S := by
  have h1 := ca_big (n := n) (by omega) q
  have h2 := ca_big (n := m) (by omega) p
  refine Fof_ret0 ?_ (cl_ordD _ _ _)
  refine seq_n (env' := [some (relD n q), some (relD m p), some (dN (n + m))]) (S' := S) (set_n (op_n (ord_ix (i := 0) rfl).1 (ord_ix (i := 1) rfl).1 (add_N _ _ _))) ?_
  refine seq_n (S' := S) (expr_n (callF1 (d := .int ((n + m : Nat) : Int)) rfl (eval_size h S))) ?_
  have e : relD (n + m) (bes n q p) = .tup [dN (n + m), .tup ((canon n q).map pD ++ ((canon m p).map (sh n)).map pD)] := by
    unfold relD ordD
    rw [canon_bes, List.map_append]
  rw [e]
  exact ret_n (tup2_n rfl (op_n (ord_ix (i := 0) rfl).2 (callF2 rfl (ord_ix (i := 0) rfl).1 (eval_moved (by omega) p S)) (tups_add (by simp only [List.length_map]; unfold bigN; omega) S)))
theorem btw_len {n m : Nat} (h : n + m ≤ 64) : (btw n m).length ≤ 4096 := by
  unfold btw
  have : ∀ l : List Nat, (l.flatMap fun x => (List.range' n m).map fun y => (x, y)).length = l.length * m := by
    intro l
    induction l with
    | nil => simp
    | cons a l ih => rw [List.flatMap_cons, List.length_append, ih]; simp [Nat.succ_mul, Nat.add_comm]
  rw [this, List.length_range]
  have h2 : n * m ≤ 64 * 64 := Nat.mul_le_mul (by omega) (by omega)
  omega
theorem sorted_all (P : List (Nat × Nat)) (S : Sto) : dSorted [.lst (P.map pD)] S = .ok (.lst ((sortP (P.map toI)).map Z.pairD)) S := by
  have e : P.map pD = (P.map toI).map Z.pairD := by rw [List.map_map]; rfl
  unfold dSorted
  simp only [seqOf, e, pairsOf_map]
theorem star_n {a : EM D} {r : EM (List D)} {env : En} {S S1 S2 : Sto} {d : D} {ds es : List D} (h : a env S = .ok d S1) (hd : anyOf d S1 = some ds) (h2 : r env S1 = .ok es S2) : zStar a r env S = .ok (ds ++ es) S2 := by
  rw [zStar, h, Rs.bnd_ok, hd]
  show (r env S1).bnd _ = _
  rw [h2]
  rfl
theorem rng2 {a b : EM D} {env : En} {T : Sto} {n m : Nat} (hn : n + m ≤ 4096) (ha : a env T = .ok (dN n) T) (hb : b env T = .ok (dN (n + m)) T) : zRange2 (zCons a (zCons b zNil)) env T = .ok ⟨(List.range' n m).map dN, none⟩ T := by
  have := rangeD_nn n (n + m)
  rw [Nat.add_sub_cancel_left] at this
  rw [zRange2, cons_n ha (one_n hb)]
  simp only [Rs.bnd_ok, dN]
  rw [if_pos (by omega), this]
theorem eval_top {n m : Nat} (h : n + m ≤ 64) (q p : Nat → Nat → Bool) (S : Sto) : F_on_top [relD n q, relD m p] S = .ok (relD (n + m) (top n q p)) S := by
  have h1 := ca_big (n := n) (by omega) q
  have h2 := ca_big (n := m) (by omega) p
  have h3 := btw_len h
  refine Fof_ret0 ?_ (cl_ordD _ _ _)
  refine seq_n (env' := [some (relD n q), some (relD m p), some (dN n), none, none, none, none]) (S' := S) (set_n (ord_ix (i := 0) rfl).1) ?_
  refine seq_n (env' := [some (relD n q), some (relD m p), some (dN n), some (dN (n + m)), none, none, none]) (S' := S) (set_n (op_n rfl (ord_ix (i := 1) rfl).1 (add_N _ _ _))) ?_
  refine seq_n (S' := S) (expr_n (callF1 (d := .int ((n + m : Nat) : Int)) rfl (eval_size h S))) ?_
  have lc := lcK2_pure (L := List.range n) (L1 := fun _ => List.range' n m) (mk := dN) (mk1 := dN) (p1 := fun _ _ => true) (v := fun x y => pD (x, y)) (c := 64) (vs := [5, 6]) (vs1 := [6]) (fi := zRange1 (zCons (zVar 2) zNil)) (g := zgName 5) (ft := zYes) (fi1 := zRange2 (zCons (zVar 2) (zCons (zVar 3) zNil))) (g1 := zgName 6) (ft1 := zYes) (fe := zTup (zCons (zVar 5) (zCons (zVar 6) zNil))) (env := [some (relD n q), some (relD m p), some (dN n), some (dN (n + m)), none, none, none]) (S := S) (S1 := S) (rng1 (n := n) (by omega) rfl) (by simp [bigN]; omega) fun x hx => ⟨[some (relD n q), some (relD m p), some (dN n), some (dN (n + m)), none, some (dN x), none], rfl, rfl, rng2 (by omega) rfl rfl, by simp; omega, fun y hy => ⟨[some (relD n q), some (relD m p), some (dN n), some (dN (n + m)), none, some (dN x), some (dN y)], rfl, rfl, fun _ => tup2_n rfl rfl⟩⟩
  have eb : ((List.range n).flatMap fun a => ((List.range' n m).filter fun _ => true).map fun y => pD (a, y)) = (btw n m).map pD := by
    unfold btw
    rw [List.map_flatMap]
    simp only [filter_tt, List.map_map]
    rfl
  rw [eb] at lc
  refine seq_n (env' := [some (relD n q), some (relD m p), some (dN n), some (dN (n + m)), some (.lst ((btw n m).map pD)), none, none]) (S' := S) (set_n lc) ?_
  have e : relD (n + m) (top n q p) = .tup [dN (n + m), .tup ((sortP ((canon n q ++ btw n m).map toI)).map Z.pairD ++ ((canon m p).map (sh n)).map pD)] := by
    unfold relD ordD
    rw [canon_top]
  rw [e]
  have disp : zLst (zStar (zOp dIx (zVar 0) (zC (.int 1))) (zStar (zVar 4) zNil)) [some (relD n q), some (relD m p), some (dN n), some (dN (n + m)), some (.lst ((btw n m).map pD)), none, none] S = .ok (.lst ((canon n q ++ btw n m).map pD)) S := by
    have := lst_n (star_n (S1 := S) (S2 := S) (ord_ix (i := 0) rfl).2 rfl (star_n (a := zVar 4) (r := zNil) (env := [some (relD n q), some (relD m p), some (dN n), some (dN (n + m)), some (.lst ((btw n m).map pD)), none, none]) (S := S) (S1 := S) (S2 := S) rfl rfl rfl)) (by simp only [List.length_append, List.length_map, List.length_nil]; unfold bigN; omega)
    rw [List.append_nil, ← List.map_append] at this
    exact this
  refine ret_n (tup2_n rfl (op_n (tupOf_n (call_n (one_n disp) (sorted_all _ S))) (callF2 rfl rfl (eval_moved (by omega) p S)) (tups_add ?_ S)))
  have := (sortP_perm ((canon n q ++ btw n m).map toI)).length_eq
  simp only [List.length_map, List.length_append] at this ⊢
  unfold bigN
  omega
end K07

namespace K07
open PySem L2 Z K06
open PySem.Spec PyProof.Rows
variable [Tabs]
/-! ### product -/
theorem rows_eq (m : Nat) : ∀ n : Nat, ((List.range n).flatMap fun x => (List.range m).map fun q => (x, q)) = (List.range (n * m)).map fun i => (i / m, i % m)
  | 0 => by simp
  | n + 1 => by
    rw [List.range_succ, List.flatMap_append, rows_eq m n, Nat.succ_mul, List.range_add, List.map_append]
    congr 1
    rw [List.flatMap_cons, List.flatMap_nil, List.append_nil, List.map_map]
    refine List.map_congr_left fun z hz => ?_
    have hz := List.mem_range.mp hz
    show (n, z) = ((n * m + z) / m, (n * m + z) % m)
    rw [Nat.mul_comm n m, Nat.mul_add_div (by omega), Nat.mul_add_mod, Nat.div_eq_of_lt hz, Nat.mod_eq_of_lt hz, Nat.add_zero]
theorem eval_selves {n : Nat} (hn : n ≤ 64) (u : Nat → Nat) (S : Sto) : F_with_selves [.lst (tab n u)] S = .ok (.lst (tab n fun x => u x ||| 2 ^ x)) S := by
  refine Fof_ret0 (ret_n ?_) (show D.cl _ (.lst _) from cls_map (f := fun x => dN (u x ||| 2 ^ x)) (fun x => clN _ _) (List.range n))
  have l := lcK_pure (L := List.range n) (mk := fun x => D.tup [dN x, dN (u x)]) (v := fun x => dN (u x ||| 2 ^ x)) (p := fun _ => true) (vs := [1, 2]) (g := zgTup 2 (zgCons (zgName 1) (zgCons (zgName 2) zgNil))) (ft := zYes) (fe := zOp dOr (zVar 2) (zOp dShl (zC (.int 1)) (zVar 1))) (fi := zEnum (zCons (zVar 0) zNil)) (env := startE N_with_selves [.lst (tab n u)]) (S := S) (S1 := S) (enum_tab rfl) (by simp [bigN]; omega) fun x hx => ⟨[some (.lst (tab n u)), some (dN x), some (dN (u x))], rfl, rfl, fun _ => by
    have h1 : dShl (.int 1) (dN x) S = .ok (dN (2 ^ x)) S := by
      have hx := List.mem_range.mp hx
      have : dShl (.int 1) (.int (x : Int)) S = _ := ev_shl 1 x S
      rw [dN, this, if_pos ⟨by omega, by omega, by decide⟩, Int.toNat_natCast, Int.one_mul, dN]
      simp
    refine op_n (d := dN (u x)) (d1 := dN (2 ^ x)) (S2 := S) rfl (op_n rfl rfl h1) ?_
    show (Rs.ok (D.int (Builtin.bitOr (u x : Int) ((2 ^ x : Nat) : Int))) S : Rs D) = _
    rw [bOr_nat]; rfl⟩
  rw [filter_tt] at l
  exact l
theorem mul_N {a b : Nat} (h : a < 2 ^ 60) (S : Sto) : dMul (dN a) (dN b) S = .ok (dN (a * b)) S := by
  have : dMul (.int (a : Int)) (.int (b : Int)) S = _ := ev_mul a b S
  rw [dN, dN, this, if_pos (.inl ⟨by omega, by omega⟩), dN, Int.natCast_mul]
theorem bit_t {a b : EM D} {env : En} {T : Sto} {w y : Nat} (ha : a env T = .ok (dN w) T) (hb : b env T = .ok (dN y) T) : zTru (zOp dAnd (zOp dShr a b) (zC (.int 1))) env T = .ok (w.testBit y) T := by
  have h1 : dShr (dN w) (dN y) T = .ok (.int ((w : Int) / 2 ^ y)) T := by
    have : dShr (.int (w : Int)) (.int (y : Int)) T = _ := ev_shr w y T
    rw [dN, dN, this, if_pos (by omega), Int.toNat_natCast]
  refine tru_n (op_n (op_n ha hb h1) rfl rfl) ?_
  show some (Builtin.bitAnd ((w : Int) / 2 ^ y) 1 != 0) = _
  rw [and_bit]
theorem tab_i {env : En} {T : Sto} {n x : Nat} {u : Nat → Nat} {a b : EM D} (hx : x < n) (ha : a env T = .ok (.lst (tab n u)) T) (hb : b env T = .ok (dN x) T) : zOp dIx a b env T = .ok (dN (u x)) T := by
  refine op_n ha hb ?_
  have : L2.atI (tab n u) (x : Int) = some (dN (u x)) := atI_nat (tab_get u hx)
  show dIx (.lst (tab n u)) (.int (x : Int)) T = _
  unfold dIx
  simp only [anyOf, seqOf, this]
theorem pair_ne (p p' : Nat × Nat) (S : Sto) : dNe (pD p) (pD p') S = .ok (.bl (!decide (p = p'))) S := by
  show dEqD true (pD p) (pD p') S = _
  unfold dEqD
  rw [toP_pD, toP_pD]
  simp only [sh_pP, and_self, if_true, eqv_pP]
/-- the pairs of the product, by the numbers of its points -/
theorem prod_pairs (n m : Nat) (hm : 0 < m) (q p : Nat → Nat → Bool) :
    ((List.range (n * m)).map fun i => (i / m, i % m)).flatMap (fun a => (((List.range (n * m)).map fun i => (i / m, i % m)).filter fun b => !decide (a = b) && ((decide (a.1 = b.1) || q a.1 b.1) && (decide (a.2 = b.2) || p a.2 b.2))).map fun b => (a.1 * m + a.2, b.1 * m + b.2)) = canon (n * m) (prd m q p) := by
  unfold canon
  rw [List.flatMap_map]
  have whole : ∀ i, i / m * m + i % m = i := fun i => by rw [Nat.mul_comm]; exact Nat.div_add_mod i m
  refine congrArg (fun f => List.flatMap f (List.range (n * m))) (funext fun i => ?_)
  rw [List.filter_map, List.map_map]
  have ep : (List.range (n * m)).filter ((fun b : Nat × Nat => !decide ((i / m, i % m) = b) && ((decide (i / m = b.1) || q (i / m) b.1) && (decide (i % m = b.2) || p (i % m) b.2))) ∘ fun i => (i / m, i % m)) = (List.range (n * m)).filter fun y => prd m q p i y := by
    refine List.filter_congr fun j _ => ?_
    show (!decide ((i / m, i % m) = (j / m, j % m)) && _) = prd m q p i j
    have : decide ((i / m, i % m) = (j / m, j % m)) = decide (i = j) := decide_eq_decide.mpr ⟨fun e => by
      have f1 := congrArg Prod.fst e
      have f2 := congrArg Prod.snd e
      simp only at f1 f2
      rw [← whole i, ← whole j, f1, f2], fun e => by rw [e]⟩
    rw [this]
    unfold prd
    rw [Bool.and_assoc]
  rw [ep]
  refine List.map_congr_left fun j _ => ?_
  show (i / m * m + i % m, j / m * m + j % m) = (i, j)
  rw [whole, whole]
theorem up_bit {n : Nat} (q : Nat → Nat → Bool) {x y : Nat} (hx : x < n) (hy : y < n) : (upF (canon n q) (fun _ => 0) x ||| 2 ^ x).testBit y = (decide (x = y) || q x y) := by
  rw [Nat.testBit_or, upF_bit, Nat.testBit_two_pow, Nat.zero_testBit, Bool.false_or, Bool.or_comm]
  congr 1
  rw [Bool.eq_iff_iff, decide_eq_true_eq, mem_canon]
  exact ⟨fun h => h.2.2, fun h => ⟨hx, hy, h⟩⟩
theorem eval_product {n m : Nat} (hn : n ≤ 64) (hm : m ≤ 64) (h : n * m ≤ 64) (q p : Nat → Nat → Bool) (S : Sto) : F_product [relD n q, relD m p] S = .ok (relD (n * m) (prd m q p)) S := by
  have a1 := K06.eval_above (P := canon n q) hn (fun e he => ⟨(ca_lt he).1, by have := (ca_lt he).2; omega⟩) S
  have a2 := K06.eval_above (P := canon m p) hm (fun e he => ⟨(ca_lt he).1, by have := (ca_lt he).2; omega⟩) S
  have b1 := eval_selves hn (upF (canon n q) fun _ => 0) S
  have b2 := eval_selves hm (upF (canon m p) fun _ => 0) S
  generalize hu : (fun x => upF (canon n q) (fun _ => 0) x ||| 2 ^ x) = u at b1
  generalize hw : (fun x => upF (canon m p) (fun _ => 0) x ||| 2 ^ x) = w at b2
  have ub : ∀ x y, x < n → y < n → (u x).testBit y = (decide (x = y) || q x y) := fun x y hx hy => by rw [← hu]; exact up_bit q hx hy
  have wb : ∀ x y, x < m → y < m → (w x).testBit y = (decide (x = y) || p x y) := fun x y hx hy => by rw [← hw]; exact up_bit p hx hy
  let R := (List.range (n * m)).map fun i => (i / m, i % m)
  have hR : ∀ e ∈ R, e.1 < n ∧ e.2 < m := fun e he => by
    obtain ⟨i, hi, rfl⟩ := List.mem_map.mp he
    have hi := List.mem_range.mp hi
    have m0 : 0 < m := Nat.pos_of_ne_zero fun e => by rw [e, Nat.mul_zero] at hi; omega
    exact ⟨Nat.div_lt_of_lt_mul (by rw [Nat.mul_comm]; exact hi), Nat.mod_lt _ m0⟩
  have lR : R.length = n * m := by simp [R]
  refine Fof_ret0 ?_ (cl_ordD _ _ _)
  refine seq_n (env' := [some (relD n q), some (relD m p), some (dN n), none, none, none, none, none, none, none, none, none]) (S' := S) (set_n (ord_ix (i := 0) rfl).1) ?_
  refine seq_n (env' := [some (relD n q), some (relD m p), some (dN n), some (dN m), none, none, none, none, none, none, none, none]) (S' := S) (set_n (ord_ix (i := 1) rfl).1) ?_
  have mul : ∀ env, env[2]? = some (some (dN n)) → env[3]? = some (some (dN m)) → zOp dMul (zVar 2) (zVar 3) env S = .ok (dN (n * m)) S := fun env h2 h3 => op_n (by rw [zVar, h2]) (by rw [zVar, h3]) (mul_N (by omega) S)
  refine seq_n (S' := S) (expr_n (callF1 (mul _ rfl rfl) (eval_size h S))) ?_
  refine seq_n (env' := [some (relD n q), some (relD m p), some (dN n), some (dN m), some (.lst (tab n u)), none, none, none, none, none, none, none]) (S' := S) (set_n (callF1 (callF1 rfl a1) b1)) ?_
  refine seq_n (env' := [some (relD n q), some (relD m p), some (dN n), some (dN m), some (.lst (tab n u)), some (.lst (tab m w)), none, none, none, none, none, none]) (S' := S) (set_n (callF1 (callF1 rfl a2) b2)) ?_
  have l1 := lcK2_pure (L := List.range n) (L1 := fun _ => List.range m) (mk := dN) (mk1 := dN) (p1 := fun _ _ => true) (v := fun x y => pD (x, y)) (c := 64) (vs := [8, 9]) (vs1 := [9]) (fi := zRange1 (zCons (zVar 2) zNil)) (g := zgName 8) (ft := zYes) (fi1 := zRange1 (zCons (zVar 3) zNil)) (g1 := zgName 9) (ft1 := zYes) (fe := zTup (zCons (zVar 8) (zCons (zVar 9) zNil))) (env := [some (relD n q), some (relD m p), some (dN n), some (dN m), some (.lst (tab n u)), some (.lst (tab m w)), none, none, none, none, none, none]) (S := S) (S1 := S) (rng1 (n := n) (by omega) rfl) (by simp [bigN]; omega) fun x hx => ⟨[some (relD n q), some (relD m p), some (dN n), some (dN m), some (.lst (tab n u)), some (.lst (tab m w)), none, none, some (dN x), none, none, none], rfl, rfl, rng1 (n := m) (by omega) rfl, by simpa using hm, fun y hy => ⟨[some (relD n q), some (relD m p), some (dN n), some (dN m), some (.lst (tab n u)), some (.lst (tab m w)), none, none, some (dN x), some (dN y), none, none], rfl, rfl, fun _ => tup2_n rfl rfl⟩⟩
  have e1 : ((List.range n).flatMap fun a => ((List.range m).filter fun _ => true).map fun y => pD (a, y)) = R.map pD := by
    show _ = ((List.range (n * m)).map fun i => (i / m, i % m)).map pD
    rw [← rows_eq, List.map_flatMap]
    simp only [filter_tt, List.map_map]
    rfl
  rw [e1] at l1
  refine seq_n (env' := [some (relD n q), some (relD m p), some (dN n), some (dN m), some (.lst (tab n u)), some (.lst (tab m w)), some (.lst (R.map pD)), none, none, none, none, none]) (S' := S) (set_n l1) ?_
  have l2 := lcK2_pure (L := R) (L1 := fun _ => R) (mk := pD) (mk1 := pD) (p1 := fun a b => !decide (a = b) && ((decide (a.1 = b.1) || q a.1 b.1) && (decide (a.2 = b.2) || p a.2 b.2))) (v := fun a b => pD (a.1 * m + a.2, b.1 * m + b.2)) (c := 64) (vs := [8, 9, 10, 11]) (vs1 := [10, 11]) (fi := zSrc (zVar 6)) (g := zgTup 2 (zgCons (zgName 8) (zgCons (zgName 9) zgNil))) (ft := zYes) (fi1 := zSrc (zVar 6)) (g1 := zgTup 2 (zgCons (zgName 10) (zgCons (zgName 11) zgNil)))
    (ft1 := zAnd (zB (zOp dNe (zTup (zCons (zVar 8) (zCons (zVar 9) zNil))) (zTup (zCons (zVar 10) (zCons (zVar 11) zNil))))) (zAnd (zTru (zOp dAnd (zOp dShr (zOp dIx (zVar 4) (zVar 8)) (zVar 10)) (zC (.int 1)))) (zTru (zOp dAnd (zOp dShr (zOp dIx (zVar 5) (zVar 9)) (zVar 11)) (zC (.int 1))))))
    (fe := zTup (zCons (zOp dAdd (zOp dMul (zVar 8) (zVar 3)) (zVar 9)) (zCons (zOp dAdd (zOp dMul (zVar 10) (zVar 3)) (zVar 11)) zNil))) (env := [some (relD n q), some (relD m p), some (dN n), some (dN m), some (.lst (tab n u)), some (.lst (tab m w)), some (.lst (R.map pD)), none, none, none, none, none]) (S := S) (S1 := S) (src_l rfl) (by rw [lR]; unfold bigN; omega) fun a ha => ⟨[some (relD n q), some (relD m p), some (dN n), some (dN m), some (.lst (tab n u)), some (.lst (tab m w)), some (.lst (R.map pD)), none, some (dN a.1), some (dN a.2), none, none], rfl, rfl, src_l rfl, by rw [lR]; exact h, fun b hb => ⟨[some (relD n q), some (relD m p), some (dN n), some (dN m), some (.lst (tab n u)), some (.lst (tab m w)), some (.lst (R.map pD)), none, some (dN a.1), some (dN a.2), some (dN b.1), some (dN b.2)], rfl, ?_, fun _ => tup2_n (op_n (op_n rfl rfl (mul_N (by have := (hR a ha).1; omega) S)) rfl (add_N _ _ _)) (op_n (op_n rfl rfl (mul_N (by have := (hR b hb).1; omega) S)) rfl (add_N _ _ _))⟩⟩
  · have e2 : (R.flatMap fun a => (R.filter fun b => !decide (a = b) && ((decide (a.1 = b.1) || q a.1 b.1) && (decide (a.2 = b.2) || p a.2 b.2))).map fun b => pD (a.1 * m + a.2, b.1 * m + b.2)) = (canon (n * m) (prd m q p)).map pD := by
      rcases Nat.eq_zero_or_pos m with m0 | m0
      · subst m0
        simp [R, canon]
      · rw [← prod_pairs n m m0 q p, List.map_flatMap]
        simp only [List.map_map]
        rfl
    rw [e2] at l2
    refine seq_n (S' := S) (set_n l2) ?_
    exact ret_n (tup2_n (mul _ rfl rfl) (tupOf_n rfl))
  · have t0 := b_n (op_n (a := zTup (zCons (zVar 8) (zCons (zVar 9) zNil))) (b := zTup (zCons (zVar 10) (zCons (zVar 11) zNil))) (env := [some (relD n q), some (relD m p), some (dN n), some (dN m), some (.lst (tab n u)), some (.lst (tab m w)), some (.lst (R.map pD)), none, some (dN a.1), some (dN a.2), some (dN b.1), some (dN b.2)]) (S := S) (d := pD a) (d1 := pD b) (S1 := S) (S2 := S) (tup2_n rfl rfl) (tup2_n rfl rfl) (pair_ne a b S))
    have t1 := bit_t (T := S) (env := [some (relD n q), some (relD m p), some (dN n), some (dN m), some (.lst (tab n u)), some (.lst (tab m w)), some (.lst (R.map pD)), none, some (dN a.1), some (dN a.2), some (dN b.1), some (dN b.2)]) (b := zVar 10) (tab_i (a := zVar 4) (b := zVar 8) (hR a ha).1 rfl rfl) rfl
    have t2 := bit_t (T := S) (env := [some (relD n q), some (relD m p), some (dN n), some (dN m), some (.lst (tab n u)), some (.lst (tab m w)), some (.lst (R.map pD)), none, some (dN a.1), some (dN a.2), some (dN b.1), some (dN b.2)]) (b := zVar 11) (tab_i (a := zVar 5) (b := zVar 9) (hR a ha).2 rfl rfl) rfl
    rw [ub _ _ (hR a ha).1 (hR b hb).1] at t1
    rw [wb _ _ (hR a ha).2 (hR b hb).2] at t2
    cases c0 : decide (a = b) with
    | true =>
      rw [c0] at t0
      exact and_f t0
    | false =>
      rw [c0] at t0
      refine and_n t0 ?_
      cases c1 : (decide (a.1 = b.1) || q a.1 b.1) with
      | false =>
        rw [c1] at t1
        exact and_f t1
      | true =>
        rw [c1] at t1
        exact and_n t1 t2
end K07

namespace K07
open PySem L2 Z K06
open PySem.Spec PyProof.Rows
variable [Tabs]
/-! ### the law's tables -/
/-- a table, however it lies: what its cells are -/
def TbOk (n : Nat) (f : Nat → Nat → Bool) (tb : D) (T : Sto) : Prop := ∀ x, x < n → ∃ row, dIx tb (dN x) T = .ok row T ∧ ∀ y, y < n → dIx row (dN y) T = .ok (.bl (f x y)) T
theorem lists_add {xs ys : List D} (h : xs.length + ys.length ≤ bigN) (S : Sto) : dAdd (.lst xs) (.lst ys) S = .ok (.lst (xs ++ ys)) S := by
  unfold dAdd
  simp only [if_pos h]
noncomputable def liB : SM := zSet 2 (zOp dAdd (zVar 2) (zLcK .frz [4] (zRange1 (zCons (zVar 0) zNil)) (zgName 4) (zTru (zOp dIx (zOp dIx (zVar 1) (zVar 3)) (zVar 4))) (zTup (zCons (zVar 3) (zCons (zVar 4) zNil)))))
theorem run_listed_eq : run__law_listed = (zSeq (zSet 2 (zLst zNil)) (zSeq (zFor (zRange1 (zCons (zVar 0) zNil)) (zgName 3) liB) (zRet (zTup (zCons (zVar 0) (zCons (zCall dTuple (zCons (zVar 2) zNil)) zNil)))))) := rfl
theorem eval_listed {n : Nat} (hn : n ≤ 64) {f : Nat → Nat → Bool} {tb : D} {T : Sto} (h : TbOk n f tb T) : F__law_listed [dN n, tb] T = .ok (relD n f) T := by
  have step : ∀ (x : Nat) (a : Option D), x < n → liB [some (dN n), some tb, some (.lst ((pre n f x).map pD)), some (dN x), a] T = .mk (.next [some (dN n), some tb, some (.lst ((pre n f (x + 1)).map pD)), some (dN x), a]) T := fun x a hx => by
    obtain ⟨row, h1, h2⟩ := h x hx
    have l := lcK_pure (L := List.range n) (mk := dN) (v := fun y => pD (x, y)) (p := fun y => f x y) (vs := [4]) (g := zgName 4) (ft := zTru (zOp dIx (zOp dIx (zVar 1) (zVar 3)) (zVar 4))) (fe := zTup (zCons (zVar 3) (zCons (zVar 4) zNil))) (fi := zRange1 (zCons (zVar 0) zNil)) (env := [some (dN n), some tb, some (.lst ((pre n f x).map pD)), some (dN x), a]) (S := T) (S1 := T) (rng1 (n := n) (by omega) rfl) (by simp [bigN]; omega) fun y hy => ⟨[some (dN n), some tb, some (.lst ((pre n f x).map pD)), some (dN x), some (dN y)], rfl, tru_n (op_n (op_n rfl rfl h1) rfl (h2 y (List.mem_range.mp hy))) rfl, fun _ => tup2_n rfl rfl⟩
    have b1 := pre_len n f x
    have b2 : x * n ≤ 64 * 64 := Nat.mul_le_mul (by omega) hn
    have b3 := List.length_filter_le (fun y => f x y) (List.range n)
    rw [List.length_range] at b3
    have last : (pre n f x).map pD ++ ((List.range n).filter fun y => f x y).map (fun y => pD (x, y)) = (pre n f (x + 1)).map pD := by
      rw [pre_succ, List.map_append, List.map_map]
      rfl
    have := op_n (o := dAdd) (a := zVar 2) (d := .lst ((pre n f x).map pD)) (env := [some (dN n), some tb, some (.lst ((pre n f x).map pD)), some (dN x), a]) (S := T) (S1 := T) rfl l (lists_add (by simp only [List.length_map]; unfold bigN; omega) T)
    rw [last] at this
    exact set_n this
  have loop : ∀ (xs : List D) (m x : Nat) (a : Option D), x + m = n → ∃ b, forL ⟨xs, none⟩ (zgName 3) liB ((List.range' x m).map dN) [some (dN n), some tb, some (.lst ((pre n f x).map pD)), a, none] T = .mk (.next [some (dN n), some tb, some (.lst ((pre n f n).map pD)), b, none]) T := by
    intro xs m
    induction m with
    | zero =>
      intro x a h
      have : x = n := by omega
      subst this
      exact ⟨a, by rw [List.range'_zero, List.map_nil, forL_nil rfl]⟩
    | succ m ih =>
      intro x a h
      obtain ⟨b, e⟩ := ih (x + 1) (some (dN x)) (by omega)
      refine ⟨b, ?_⟩
      rw [List.range'_succ, List.map_cons, forL_cons (env1 := [some (dN n), some tb, some (.lst ((pre n f x).map pD)), some (dN x), none]) rfl rfl, step x none (by omega), Ss.turn_next]
      exact e
  obtain ⟨b, e⟩ := loop ((List.range n).map dN) n 0 none (by omega)
  rw [← List.range_eq_range'] at e
  refine Fof_ret0 ?_ (cl_ordD _ _ _)
  rw [run_listed_eq]
  refine seq_n (env' := [some (dN n), some tb, some (.lst []), none, none]) (S' := T) (set_n (lst_n nil_n (by simp [bigN]))) ?_
  refine seq_n (env' := [some (dN n), some tb, some (.lst ((pre n f n).map pD)), b, none]) (S' := T) ?_ ?_
  · rw [zFor, rng1 (n := n) (T := T) (by omega) rfl]
    exact e
  · exact ret_n (tup2_n rfl (tupOf_n rfl))
/-- an order with its table -/
def fD (n : Nat) (q : Nat → Nat → Bool) : D := .tup [relD n q, matD n fun y x => q x y]
theorem fd_at {n : Nat} {q : Nat → Nat → Bool} {env : En} {T : Sto} {o a b : EM D} {x y : Nat} (hx : x < n) (hy : y < n) (ho : o env T = .ok (fD n q) T) (ha : a env T = .ok (dN y) T) (hb : b env T = .ok (dN x) T) : zOp dIx (zOp dIx (zOp dIx o (zC (.int 1))) a) b env T = .ok (.bl (q x y)) T := by
  refine op_n (op_n (op_n (d1 := .int 1) ho rfl (R := .ok (matD n fun y x => q x y) T) rfl) ha (R := .ok (.lst (bools n (fun y x => q x y) y)) T) ?_) hb ?_
  · have := mat_get (fun y x => q x y) hy
    show dIx (.lst _) (.int (y : Int)) T = _
    unfold dIx
    simp only [anyOf, seqOf, this]
  · have := bools_get (fun y x => q x y) y hx
    show dIx (.lst _) (.int (x : Int)) T = _
    unfold dIx
    simp only [anyOf, seqOf, this]
theorem fd_n {n : Nat} {q : Nat → Nat → Bool} {env : En} {T : Sto} {o : EM D} (ho : o env T = .ok (fD n q) T) : zOp dIx (zOp dIx o (zC (.int 0))) (zC (.int 0)) env T = .ok (dN n) T :=
  op_n (d := relD n q) (d1 := .int 0) (op_n (d := fD n q) (d1 := .int 0) ho rfl rfl) rfl rfl
theorem lt_N (a b : Nat) (S : Sto) : dLt (dN a) (dN b) S = .ok (.bl (decide (a < b))) S := by
  show (Rs.ok (D.bl (decide ((a : Int) < (b : Int)))) S : Rs D) = _
  congr 2
  exact decide_eq_decide.mpr ⟨fun _ => by omega, fun _ => by omega⟩
theorem sub_N {a b : Nat} (h : b ≤ a) (S : Sto) : dSub (dN a) (dN b) S = .ok (dN (a - b)) S := by
  show (Rs.ok (D.int ((a : Int) - (b : Int))) S : Rs D) = _
  rw [dN, Int.natCast_sub h]
theorem app_n {i : EM D} {a : EM D} {env : En} {S S1 : Sto} {q : Nat} {acc : List D} {d : D} (hi : i env S = .ok (.ptr q) S1) (ha : a env S1 = .ok d S1) (hS : S1[q]? = some (.lst acc)) (hb : acc.length < bigN) : zExpr (zMethL dAppend i (zCons a zNil)) env S = .mk (.next env) (S1.set q (.lst (acc ++ [d]))) := by
  have hq := (List.getElem?_eq_some_iff.mp hS)
  simp [hi, ha, hS, hq.1, hq.2, hb]
/-! ### joined up -/
def jn (fl : Bool) (n : Nat) (q p : Nat → Nat → Bool) (x y : Nat) : Bool := if x < n ∧ y < n then q x y else if x < n ∨ y < n then fl && decide (x < n) else p (x - n) (y - n)
noncomputable def juIn : SM := (zIfS (zAnd (zB (zOp dLt (zVar 6) (zVar 3))) (zB (zOp dLt (zVar 8) (zVar 3)))) (zExpr (zMethL dAppend (zVar 7) (zCons (zOp dIx (zOp dIx (zOp dIx (zVar 0) (zC (.int 1))) (zVar 8)) (zVar 6)) zNil))) (zIfS (zOr (zB (zOp dLt (zVar 6) (zVar 3))) (zB (zOp dLt (zVar 8) (zVar 3)))) (zExpr (zMethL dAppend (zVar 7) (zCons (zAndV (zVar 2) (zOp dLt (zVar 6) (zVar 3))) zNil))) (zExpr (zMethL dAppend (zVar 7) (zCons (zOp dIx (zOp dIx (zOp dIx (zVar 1) (zC (.int 1))) (zOp dSub (zVar 8) (zVar 3))) (zOp dSub (zVar 6) (zVar 3))) zNil)))))
noncomputable def juB : SM := (zSeq (zSet 7 (zLstC zNil)) (zSeq (zFor (zRange1 (zCons (zVar 4) zNil)) (zgName 8) juIn) (zExpr (zMethL dAppend (zVar 5) (zCons (zVar 7) zNil)))))
theorem run_ju_eq : run__law_joined_up = (zSeq (zSet 3 (zOp dIx (zOp dIx (zVar 0) (zC (.int 0))) (zC (.int 0))))
    (zSeq (zSet 4 (zOp dAdd (zVar 3) (zOp dIx (zOp dIx (zVar 1) (zC (.int 0))) (zC (.int 0)))))
    (zSeq (zSet 5 (zLstC zNil))
    (zSeq (zFor (zRange1 (zCons (zVar 4) zNil)) (zgName 6) juB)
    (zRet (zCallF 2 F__law_listed (zCons (zVar 4) (zCons (zVar 5) zNil)))))))) := rfl
section
variable {n m : Nat} {q p : Nat → Nat → Bool} {fl : Bool}
def jE (n m : Nat) (q p : Nat → Nat → Bool) (fl : Bool) (o : Nat) (x r y : Option D) : En := [some (fD n q), some (fD m p), some (.bl fl), some (dN n), some (dN (n + m)), some (.ptr o), x, r, y]
/-- one entry -/
theorem ju_one {o rw x y : Nat} {T : Sto} {acc : List D} (hx : x < n + m) (hy : y < n + m) (hT : T[rw]? = some (.lst acc)) (hb : acc.length < bigN) : juIn (jE n m q p fl o (some (dN x)) (some (.ptr rw)) (some (dN y))) T = .mk (.next (jE n m q p fl o (some (dN x)) (some (.ptr rw)) (some (dN y)))) (T.set rw (.lst (acc ++ [.bl (jn fl n q p x y)]))) := by
  have t1 : zB (zOp dLt (zVar 6) (zVar 3)) (jE n m q p fl o (some (dN x)) (some (.ptr rw)) (some (dN y))) T = .ok (decide (x < n)) T := b_n (op_n rfl rfl (lt_N _ _ _))
  have t2 : zB (zOp dLt (zVar 8) (zVar 3)) (jE n m q p fl o (some (dN x)) (some (.ptr rw)) (some (dN y))) T = .ok (decide (y < n)) T := b_n (op_n rfl rfl (lt_N _ _ _))
  unfold jn
  by_cases c1 : x < n
  · rw [decide_eq_true c1] at t1
    by_cases c2 : y < n
    · rw [decide_eq_true c2] at t2
      rw [if_pos ⟨c1, c2⟩]
      exact if_t (and_n t1 t2) (app_n (i := zVar 7) rfl (fd_at c1 c2 rfl rfl rfl) hT hb)
    · rw [decide_eq_false c2] at t2
      rw [if_neg (fun h => c2 h.2), if_pos (.inl c1), decide_eq_true c1]
      refine if_f (and_n t1 t2) (if_t (or_t t1) ?_)
      cases fl with
      | true => exact app_n (i := zVar 7) rfl (andV_n rfl (op_n rfl rfl ((lt_N x n T).trans (by rw [decide_eq_true c1]; rfl)))) hT hb
      | false => exact app_n (i := zVar 7) rfl (andV_f rfl) hT hb
  · rw [decide_eq_false c1] at t1
    rw [if_neg (fun h => c1 h.1)]
    by_cases c2 : y < n
    · rw [decide_eq_true c2] at t2
      rw [if_pos (.inr c2), decide_eq_false c1]
      refine if_f (and_f t1) (if_t (or_n t1 t2) ?_)
      cases fl with
      | true => exact app_n (i := zVar 7) rfl (andV_n rfl (op_n rfl rfl ((lt_N x n T).trans (by rw [decide_eq_false c1]; rfl)))) hT hb
      | false => exact app_n (i := zVar 7) rfl (andV_f rfl) hT hb
    · rw [decide_eq_false c2] at t2
      rw [if_neg (fun h => h.elim c1 c2)]
      refine if_f (and_f t1) (if_f (or_n t1 t2) ?_)
      exact app_n (i := zVar 7) rfl (fd_at (by omega) (by omega) rfl (op_n rfl rfl (sub_N (by omega) T)) (op_n rfl rfl (sub_N (by omega) T))) hT hb
end
end K07

namespace K07
open PySem L2 Z K06
open PySem.Spec PyProof.Rows
variable [Tabs]
section
variable {n m : Nat} {q p : Nat → Nat → Bool} {fl : Bool}
theorem zFor_n {i : EI} {g : GM} {b : SM} {env : En} {S S1 : Sto} {xs : List D} {gd : Option Nat} {r : Ss} (h : i env S = .ok ⟨xs, gd⟩ S1) (h2 : forL ⟨xs, gd⟩ g b xs env S1 = r) : zFor i g b env S = r := by
  rw [zFor, h]
  exact h2
/-- the store with x rows done -/
def jS (S : Sto) (N : Nat) (f : Nat → Nat → Bool) (x : Nat) : Sto := S ++ (C.lst ((List.range x).map fun i => .ptr (S.length + 1 + i)) :: (List.range x).map fun i => C.lst ((List.range N).map fun y => .bl (f i y)))
theorem jS_len (S : Sto) (N : Nat) (f : Nat → Nat → Bool) (x : Nat) : (jS S N f x).length = S.length + 1 + x := by simp [jS]; omega
theorem jS_out (S : Sto) (N : Nat) (f : Nat → Nat → Bool) (x : Nat) : (jS S N f x)[S.length]? = some (.lst ((List.range x).map fun i => .ptr (S.length + 1 + i))) := by
  unfold jS
  rw [List.getElem?_append_right (Nat.le_refl _), Nat.sub_self]
  rfl
theorem jS_row (S : Sto) (N : Nat) (f : Nat → Nat → Bool) {x i : Nat} (h : i < x) : (jS S N f x)[S.length + 1 + i]? = some (.lst ((List.range N).map fun y => .bl (f i y))) := by
  unfold jS
  rw [List.getElem?_append_right (by omega), show S.length + 1 + i - S.length = i + 1 by omega, List.getElem?_cons_succ]
  simp [h]
theorem jS_tb (S : Sto) {N : Nat} (f : Nat → Nat → Bool) : TbOk N f (.ptr S.length) (jS S N f N) := fun x hx => by
  refine ⟨.ptr (S.length + 1 + x), ?_, fun y hy => ?_⟩
  · have := ptrs_get (fun i => S.length + 1 + i) hx
    show dIx (.ptr S.length) (.int (x : Int)) _ = _
    unfold dIx
    simp only [anyOf, seqOf, jS_out, this]
  · have : L2.atI ((List.range N).map fun y => D.bl (f x y)) (y : Int) = some (.bl (f x y)) := atI_nat (by simp [hy])
    show dIx (.ptr (S.length + 1 + x)) (.int (y : Int)) _ = _
    unfold dIx
    simp only [anyOf, seqOf, jS_row S N f hx, this]
theorem ju_in {x o : Nat} {T : Sto} (hN : n + m ≤ 64) (hx : x < n + m) (xs : List D) : ∀ (k y : Nat) (b : Option D), y + k = n + m → ∃ b', forL ⟨xs, none⟩ (zgName 8) juIn ((List.range' y k).map dN) (jE n m q p fl o (some (dN x)) (some (.ptr T.length)) b) (T ++ [.lst ((List.range y).map fun z => .bl (jn fl n q p x z))]) = .mk (.next (jE n m q p fl o (some (dN x)) (some (.ptr T.length)) b')) (T ++ [.lst ((List.range (n + m)).map fun z => .bl (jn fl n q p x z))])
  | 0, y, b, h => by
    obtain rfl : y = n + m := by omega
    exact ⟨b, by rw [List.range'_zero, List.map_nil, forL_nil rfl]⟩
  | k + 1, y, b, h => by
    obtain ⟨b', e⟩ := ju_in (T := T) hN hx xs k (y + 1) (some (dN y)) (by omega)
    refine ⟨b', ?_⟩
    have st := ju_one (n := n) (m := m) (q := q) (p := p) (fl := fl) (o := o) (rw := T.length) (x := x) (y := y) (T := T ++ [.lst ((List.range y).map fun z => .bl (jn fl n q p x z))]) (acc := (List.range y).map fun z => .bl (jn fl n q p x z)) hx (by omega) (by simp) (by simp [bigN]; omega)
    have grow : (T ++ [C.lst ((List.range y).map fun z => .bl (jn fl n q p x z))]).set T.length (.lst ((List.range y).map (fun z => D.bl (jn fl n q p x z)) ++ [.bl (jn fl n q p x y)])) = T ++ [.lst ((List.range (y + 1)).map fun z => .bl (jn fl n q p x z))] := by
      rw [List.range_succ]
      simp
    rw [grow] at st
    rw [List.range'_succ, List.map_cons, forL_cons (env1 := jE n m q p fl o (some (dN x)) (some (.ptr T.length)) (some (dN y))) rfl rfl, st, Ss.turn_next]
    exact e
theorem ju_row {S : Sto} {x : Nat} (hN : n + m ≤ 64) (hx : x < n + m) (r b : Option D) : ∃ r' b', juB (jE n m q p fl S.length (some (dN x)) r b) (jS S (n + m) (jn fl n q p) x) = .mk (.next (jE n m q p fl S.length (some (dN x)) r' b')) (jS S (n + m) (jn fl n q p) (x + 1)) := by
  obtain ⟨b', e⟩ := ju_in (q := q) (p := p) (fl := fl) (o := S.length) (T := jS S (n + m) (jn fl n q p) x) hN hx ((List.range (n + m)).map dN) (n + m) 0 b (by omega)
  rw [← List.range_eq_range'] at e
  refine ⟨some (.ptr (jS S (n + m) (jn fl n q p) x).length), b', ?_⟩
  refine seq_n (env' := jE n m q p fl S.length (some (dN x)) (some (.ptr (jS S (n + m) (jn fl n q p) x).length)) b) (S' := jS S (n + m) (jn fl n q p) x ++ [.lst []]) (set_n (lstC_n nil_n (by simp [bigN]))) ?_
  refine seq_n (env' := jE n m q p fl S.length (some (dN x)) (some (.ptr (jS S (n + m) (jn fl n q p) x).length)) b') (S' := jS S (n + m) (jn fl n q p) x ++ [.lst ((List.range (n + m)).map fun z => .bl (jn fl n q p x z))]) ?_ ?_
  · exact zFor_n (rng1 (n := n + m) (a := zVar 4) (by omega) rfl) e
  · have o1 : (jS S (n + m) (jn fl n q p) x ++ [C.lst ((List.range (n + m)).map fun z => .bl (jn fl n q p x z))])[S.length]? = some (.lst ((List.range x).map fun i => .ptr (S.length + 1 + i))) := by
      rw [List.getElem?_append_left (by rw [jS_len]; omega)]
      exact jS_out S (n + m) (jn fl n q p) x
    have := app_n (i := zVar 5) (a := zVar 7) (env := jE n m q p fl S.length (some (dN x)) (some (.ptr (jS S (n + m) (jn fl n q p) x).length)) b') (S := jS S (n + m) (jn fl n q p) x ++ [C.lst ((List.range (n + m)).map fun z => .bl (jn fl n q p x z))]) (q := S.length) (d := .ptr (jS S (n + m) (jn fl n q p) x).length) rfl rfl o1 (by simp [bigN]; omega)
    rw [this]
    congr 1
    rw [jS_len]
    unfold jS
    rw [List.append_assoc, List.set_append_right _ _ (Nat.le_refl _), Nat.sub_self, List.range_succ]
    simp
theorem eval_ju (hN : n + m ≤ 64) (S : Sto) : F__law_joined_up [fD n q, fD m p, .bl fl] S = .ok (relD (n + m) (jn fl n q p)) S := by
  have loop : ∀ (xs : List D) (k x : Nat) (a r b : Option D), x + k = n + m → ∃ a' r' b', forL ⟨xs, none⟩ (zgName 6) juB ((List.range' x k).map dN) (jE n m q p fl S.length a r b) (jS S (n + m) (jn fl n q p) x) = .mk (.next (jE n m q p fl S.length a' r' b')) (jS S (n + m) (jn fl n q p) (n + m)) := by
    intro xs k
    induction k with
    | zero =>
      intro x a r b h
      obtain rfl : x = n + m := by omega
      exact ⟨a, r, b, by rw [List.range'_zero, List.map_nil, forL_nil rfl]⟩
    | succ k ih =>
      intro x a r b h
      obtain ⟨r1, b1, st⟩ := ju_row (S := S) (q := q) (p := p) (fl := fl) hN (x := x) (by omega) r b
      obtain ⟨a', r', b', e⟩ := ih (x + 1) (some (dN x)) r1 b1 (by omega)
      refine ⟨a', r', b', ?_⟩
      rw [List.range'_succ, List.map_cons, forL_cons (env1 := jE n m q p fl S.length (some (dN x)) r b) rfl rfl, st, Ss.turn_next]
      exact e
  obtain ⟨a, r, b, e⟩ := loop ((List.range (n + m)).map dN) (n + m) 0 none none none (by omega)
  rw [← List.range_eq_range'] at e
  have fin := eval_listed hN (jS_tb S (N := n + m) (jn fl n q p))
  refine Fof_pure (L := (C.lst ((List.range (n + m)).map fun i => .ptr (S.length + 1 + i)) :: (List.range (n + m)).map fun i => C.lst ((List.range (n + m)).map fun y => .bl (jn fl n q p i y)))) (L' := (C.lst ((List.range (n + m)).map fun i => .ptr (S.length + 1 + i)) :: (List.range (n + m)).map fun i => C.lst ((List.range (n + m)).map fun y => .bl (jn fl n q p i y)))) (d := relD (n + m) (jn fl n q p)) ?_ (by simp [frz]) (cl_ordD _ _ _)
  rw [run_ju_eq]
  refine seq_n (env' := [some (fD n q), some (fD m p), some (.bl fl), some (dN n), none, none, none, none, none]) (S' := S) (set_n (fd_n rfl)) ?_
  refine seq_n (env' := [some (fD n q), some (fD m p), some (.bl fl), some (dN n), some (dN (n + m)), none, none, none, none]) (S' := S) (set_n (op_n rfl (fd_n (o := zVar 1) rfl) (add_N _ _ _))) ?_
  refine seq_n (env' := jE n m q p fl S.length none none none) (S' := S ++ [.lst []]) (set_n (lstC_n nil_n (by simp [bigN]))) ?_
  refine seq_n (env' := jE n m q p fl S.length a r b) (S' := jS S (n + m) (jn fl n q p) (n + m)) ?_ ?_
  · exact zFor_n (rng1 (n := n + m) (a := zVar 4) (by omega) rfl) e
  · exact ret_n (callF2 rfl rfl fin)
end
end K07

namespace K07
open PySem L2 Z K06
open PySem.Spec PyProof.Rows
variable [Tabs]
theorem loop_n {b : SM} {g : GM} {P : Nat → En → Sto → Prop} {N : Nat} (xs : List D) (step : ∀ i env T, i < N → P i env T → ∃ env1 env2 T2, g (dN i) env = some env1 ∧ b env1 T = .mk (.next env2) T2 ∧ P (i + 1) env2 T2) : ∀ (k i : Nat) (env : En) (T : Sto), i + k = N → P i env T → ∃ env' T', P N env' T' ∧ forL ⟨xs, none⟩ g b ((List.range' i k).map dN) env T = .mk (.next env') T'
  | 0, i, env, T, h, hP => ⟨env, T, by rwa [show N = i by omega], by rw [List.range'_zero, List.map_nil, forL_nil rfl]⟩
  | k + 1, i, env, T, h, hP => by
    obtain ⟨env1, env2, T2, h1, h2, h3⟩ := step i env T (by omega) hP
    obtain ⟨env', T', h4, h5⟩ := loop_n xs step k (i + 1) env2 T2 (by omega) h3
    exact ⟨env', T', h4, by rw [List.range'_succ, List.map_cons, forL_cons rfl h1, h2, Ss.turn_next]; exact h5⟩
theorem for_n {b : SM} {g : GM} {P : Nat → En → Sto → Prop} {N : Nat} {i : EI} {env : En} {T : Sto} (hi : i env T = .ok ⟨(List.range N).map dN, none⟩ T) (h0 : P 0 env T) (step : ∀ i env T, i < N → P i env T → ∃ env1 env2 T2, g (dN i) env = some env1 ∧ b env1 T = .mk (.next env2) T2 ∧ P (i + 1) env2 T2) : ∃ env' T', P N env' T' ∧ zFor i g b env T = .mk (.next env') T' := by
  obtain ⟨env', T', h1, h2⟩ := loop_n ((List.range N).map dN) step N 0 env T (by omega) h0
  rw [← List.range_eq_range'] at h2
  exact ⟨env', T', h1, zFor_n hi h2⟩
section
variable {env : En} {T : Sto} {a b : EM D} {x y : Bool}
theorem andV_b (ha : a env T = .ok (.bl x) T) (hb : b env T = .ok (.bl y) T) : zAndV a b env T = .ok (.bl (x && y)) T := by
  cases x with
  | true => exact andV_n ha hb
  | false => exact andV_f ha
theorem orV_b (ha : a env T = .ok (.bl x) T) (hb : b env T = .ok (.bl y) T) : zOrV a b env T = .ok (.bl (x || y)) T := by
  cases x with
  | false => exact orV_n ha hb
  | true => exact orV_t ha
end
theorem eq_N (a b : Nat) (S : Sto) : dEq (dN a) (dN b) S = .ok (.bl (decide (a = b))) S := by
  show (Rs.ok (D.bl (decide ((a : Int) = (b : Int)))) S : Rs D) = _
  congr 2
  exact decide_eq_decide.mpr ⟨fun _ => by omega, fun _ => by omega⟩
theorem nq_N (a b : Nat) (S : Sto) : dNe (dN a) (dN b) S = .ok (.bl (!decide (a = b))) S := by
  show (Rs.ok (D.bl (!decide ((a : Int) = (b : Int)))) S : Rs D) = _
  congr 3
  exact decide_eq_decide.mpr ⟨fun _ => by omega, fun _ => by omega⟩
/-! ### times -/
noncomputable def tiY : SM := (zSeq (zSet 9 (zOrV (zOp dEq (zVar 5) (zVar 8)) (zOp dIx (zOp dIx (zOp dIx (zVar 0) (zC (.int 1))) (zVar 8)) (zVar 5))))
    (zSet 7 (zOp dAdd (zVar 7) (zLcK .frz [10] (zRange1 (zCons (zVar 3) zNil)) (zgName 10) zYes (zAndV (zVar 9) (zAndV (zOrV (zOp dEq (zVar 6) (zVar 10)) (zOp dIx (zOp dIx (zOp dIx (zVar 1) (zC (.int 1))) (zVar 10)) (zVar 6))) (zOrV (zOp dNe (zVar 5) (zVar 8)) (zOp dNe (zVar 6) (zVar 10)))))))))
noncomputable def tiQ : SM := (zSeq (zSet 7 (zLst zNil)) (zSeq (zFor (zRange1 (zCons (zVar 2) zNil)) (zgName 8) tiY) (zExpr (zMethL dAppend (zVar 4) (zCons (zVar 7) zNil)))))
theorem run_ti_eq : run__law_times = (zSeq (zSet 2 (zOp dIx (zOp dIx (zVar 0) (zC (.int 0))) (zC (.int 0))))
    (zSeq (zSet 3 (zOp dIx (zOp dIx (zVar 1) (zC (.int 0))) (zC (.int 0))))
    (zSeq (zSet 4 (zLstC zNil))
    (zSeq (zFor (zRange1 (zCons (zVar 2) zNil)) (zgName 5) (zFor (zRange1 (zCons (zVar 3) zNil)) (zgName 6) tiQ))
    (zRet (zCallF 2 F__law_listed (zCons (zOp dMul (zVar 2) (zVar 3)) (zCons (zVar 4) zNil)))))))) := rfl
section
variable {n m : Nat} {q p : Nat → Nat → Bool}
def tE (n m : Nat) (q p : Nat → Nat → Bool) (o : Nat) (x z row y f r : Option D) : En := [some (fD n q), some (fD m p), some (dN n), some (dN m), some (.ptr o), x, z, row, y, f, r]
def rowT (m : Nat) (q p : Nat → Nat → Bool) (k i : Nat) : List D := (List.range k).map fun j => .bl (prd m q p i j)
theorem div_at {x m z : Nat} (h : z < m) : (x * m + z) / m = x ∧ (x * m + z) % m = z := by
  have hm : 0 < m := by omega
  rw [Nat.mul_comm x m]
  exact ⟨by rw [Nat.mul_add_div hm, Nat.div_eq_of_lt h, Nat.add_zero], by rw [Nat.mul_add_mod, Nat.mod_eq_of_lt h]⟩
theorem ti_y {o x z y : Nat} {T : Sto} (hm : m ≤ 64) (hnm : n * m ≤ 64) (hx : x < n) (hz : z < m) (hy : y < n) (f : Option D) : ∃ f', tiY (tE n m q p o (some (dN x)) (some (dN z)) (some (.lst (rowT m q p (y * m) (x * m + z)))) (some (dN y)) f none) T = .mk (.next (tE n m q p o (some (dN x)) (some (dN z)) (some (.lst (rowT m q p ((y + 1) * m) (x * m + z)))) (some (dN y)) f' none)) T := by
  refine ⟨some (.bl (decide (x = y) || q x y)), ?_⟩
  refine seq_n (env' := tE n m q p o (some (dN x)) (some (dN z)) (some (.lst (rowT m q p (y * m) (x * m + z)))) (some (dN y)) (some (.bl (decide (x = y) || q x y))) none) (S' := T) (set_n (orV_b (op_n rfl rfl (eq_N _ _ _)) (fd_at hx hy rfl rfl rfl))) ?_
  have l := lcK_pure (L := List.range m) (mk := dN) (v := fun r => D.bl (prd m q p (x * m + z) (y * m + r))) (p := fun _ => true) (vs := [10]) (g := zgName 10) (ft := zYes) (fe := (zAndV (zVar 9) (zAndV (zOrV (zOp dEq (zVar 6) (zVar 10)) (zOp dIx (zOp dIx (zOp dIx (zVar 1) (zC (.int 1))) (zVar 10)) (zVar 6))) (zOrV (zOp dNe (zVar 5) (zVar 8)) (zOp dNe (zVar 6) (zVar 10)))))) (fi := zRange1 (zCons (zVar 3) zNil)) (env := tE n m q p o (some (dN x)) (some (dN z)) (some (.lst (rowT m q p (y * m) (x * m + z)))) (some (dN y)) (some (.bl (decide (x = y) || q x y))) none) (S := T) (S1 := T) (rng1 (n := m) (by omega) rfl) (by simp [bigN]; omega) fun r hr => ⟨tE n m q p o (some (dN x)) (some (dN z)) (some (.lst (rowT m q p (y * m) (x * m + z)))) (some (dN y)) (some (.bl (decide (x = y) || q x y))) (some (dN r)), rfl, rfl, fun _ => by
    have hr := List.mem_range.mp hr
    have e := andV_b (T := T) (a := zVar 9) (env := tE n m q p o (some (dN x)) (some (dN z)) (some (.lst (rowT m q p (y * m) (x * m + z)))) (some (dN y)) (some (.bl (decide (x = y) || q x y))) (some (dN r))) (x := decide (x = y) || q x y) rfl (andV_b (orV_b (a := zOp dEq (zVar 6) (zVar 10)) (b := zOp dIx (zOp dIx (zOp dIx (zVar 1) (zC (.int 1))) (zVar 10)) (zVar 6)) (op_n (d := dN z) (d1 := dN r) rfl rfl (eq_N _ _ _)) (fd_at hz hr rfl rfl rfl)) (orV_b (a := zOp dNe (zVar 5) (zVar 8)) (b := zOp dNe (zVar 6) (zVar 10)) (op_n (d := dN x) (d1 := dN y) rfl rfl (nq_N _ _ _)) (op_n (d := dN z) (d1 := dN r) rfl rfl (nq_N _ _ _))))
    rw [e]
    congr 2
    unfold prd
    rw [(div_at hz).1, (div_at hz).2, (div_at hr).1, (div_at hr).2]
    have : decide (x * m + z = y * m + r) = (decide (x = y) && decide (z = r)) := by
      rw [Bool.eq_iff_iff, Bool.and_eq_true, decide_eq_true_eq, decide_eq_true_eq, decide_eq_true_eq]
      constructor
      · intro e
        have e1 := congrArg (· / m) e
        have e2 := congrArg (· % m) e
        simp only [(div_at hz).1, (div_at hz).2, (div_at hr).1, (div_at hr).2] at e1 e2
        exact ⟨e1, e2⟩
      · rintro ⟨rfl, rfl⟩; rfl
    rw [this]
    cases decide (x = y) <;> cases decide (z = r) <;> cases q x y <;> cases p z r <;> rfl⟩
  rw [filter_tt] at l
  have big : (y + 1) * m ≤ 64 := Nat.le_trans (Nat.mul_le_mul_right m hy) hnm
  have last : rowT m q p (y * m) (x * m + z) ++ (List.range m).map (fun r => D.bl (prd m q p (x * m + z) (y * m + r))) = rowT m q p ((y + 1) * m) (x * m + z) := by
    unfold rowT
    rw [Nat.succ_mul, List.range_add, List.map_append, List.map_map]
    rfl
  have := op_n (o := dAdd) (a := zVar 7) (d := .lst (rowT m q p (y * m) (x * m + z))) (env := tE n m q p o (some (dN x)) (some (dN z)) (some (.lst (rowT m q p (y * m) (x * m + z)))) (some (dN y)) (some (.bl (decide (x = y) || q x y))) none) (S := T) (S1 := T) rfl l (lists_add (by unfold rowT; simp only [List.length_map, List.length_range]; rw [Nat.succ_mul] at big; unfold bigN; omega) T)
  rw [last] at this
  exact set_n this
def tS (S : Sto) (n m : Nat) (q p : Nat → Nat → Bool) (i : Nat) : Sto := S ++ [.lst ((List.range i).map fun i => .lst (rowT m q p (n * m) i))]
theorem ti_q {S : Sto} {x z : Nat} (hn : n ≤ 64) (hm : m ≤ 64) (hnm : n * m ≤ 64) (hx : x < n) (hz : z < m) (row y f : Option D) : ∃ row' y' f', tiQ (tE n m q p S.length (some (dN x)) (some (dN z)) row y f none) (tS S n m q p (x * m + z)) = .mk (.next (tE n m q p S.length (some (dN x)) (some (dN z)) row' y' f' none)) (tS S n m q p (x * m + z + 1)) := by
  have hlt : x * m + z + 1 ≤ 64 := by
    have : (x + 1) * m ≤ n * m := Nat.mul_le_mul_right m hx
    rw [Nat.succ_mul] at this
    omega
  obtain ⟨env', T', ⟨y1, f1, rfl, rfl⟩, h2⟩ := for_n (N := n) (i := zRange1 (zCons (zVar 2) zNil)) (g := zgName 8) (b := tiY) (P := fun k env T => ∃ y f, env = tE n m q p S.length (some (dN x)) (some (dN z)) (some (.lst (rowT m q p (k * m) (x * m + z)))) y f none ∧ T = tS S n m q p (x * m + z)) (env := tE n m q p S.length (some (dN x)) (some (dN z)) (some (.lst [])) y f none) (T := tS S n m q p (x * m + z)) (rng1 (by omega) rfl) ⟨y, f, by rw [Nat.zero_mul]; rfl, rfl⟩ (by
    rintro k env T hk ⟨y, f, rfl, rfl⟩
    obtain ⟨f', st⟩ := ti_y (q := q) (p := p) (o := S.length) (T := tS S n m q p (x * m + z)) hm hnm hx hz hk f
    exact ⟨_, _, _, rfl, st, _, _, rfl, rfl⟩)
  refine ⟨some (.lst (rowT m q p (n * m) (x * m + z))), y1, f1, ?_⟩
  refine seq_n (env' := tE n m q p S.length (some (dN x)) (some (dN z)) (some (.lst [])) y f none) (S' := tS S n m q p (x * m + z)) (set_n (lst_n nil_n (by simp [bigN]))) ?_
  refine seq_n h2 ?_
  refine (app_n (i := zVar 4) (a := zVar 7) (q := S.length) (d := .lst (rowT m q p (n * m) (x * m + z))) rfl rfl (show (tS S n m q p (x * m + z))[S.length]? = some (.lst ((List.range (x * m + z)).map fun i => .lst (rowT m q p (n * m) i))) by simp [tS]) (by simp [bigN]; omega)).trans ?_
  congr 1
  unfold tS
  rw [List.range_succ]
  simp
theorem tS_tb (S : Sto) : TbOk (n * m) (prd m q p) (.ptr S.length) (tS S n m q p (n * m)) := fun x hx => by
  refine ⟨.lst (rowT m q p (n * m) x), ?_, fun y hy => ?_⟩
  · have h1 : (tS S n m q p (n * m))[S.length]? = some (.lst ((List.range (n * m)).map fun i => .lst (rowT m q p (n * m) i))) := by simp [tS]
    have h2 : L2.atI ((List.range (n * m)).map fun i => D.lst (rowT m q p (n * m) i)) (x : Int) = some (.lst (rowT m q p (n * m) x)) := atI_nat (by simp [hx])
    show dIx (.ptr S.length) (.int (x : Int)) _ = _
    unfold dIx
    simp only [anyOf, seqOf, h1, h2]
  · have h2 : L2.atI (rowT m q p (n * m) x) (y : Int) = some (.bl (prd m q p x y)) := atI_nat (by simp [rowT, hy])
    show dIx (.lst _) (.int (y : Int)) _ = _
    unfold dIx
    simp only [anyOf, seqOf, h2]
theorem eval_times (hn : n ≤ 64) (hm : m ≤ 64) (hnm : n * m ≤ 64) (S : Sto) : F__law_times [fD n q, fD m p] S = .ok (relD (n * m) (prd m q p)) S := by
  obtain ⟨env', T', ⟨x1, z1, r1, y1, f1, rfl, rfl⟩, h2⟩ := for_n (N := n) (i := zRange1 (zCons (zVar 2) zNil)) (g := zgName 5) (b := zFor (zRange1 (zCons (zVar 3) zNil)) (zgName 6) tiQ) (P := fun k env T => ∃ x z row y f, env = tE n m q p S.length x z row y f none ∧ T = tS S n m q p (k * m)) (env := tE n m q p S.length none none none none none none) (T := S ++ [.lst []]) (rng1 (by omega) rfl) ⟨_, _, _, _, _, rfl, by rw [Nat.zero_mul]; rfl⟩ (by
    rintro k env T hk ⟨x, z, row, y, f, rfl, rfl⟩
    obtain ⟨env', T', ⟨z1, r1, y1, f1, rfl, rfl⟩, h3⟩ := for_n (N := m) (i := zRange1 (zCons (zVar 3) zNil)) (g := zgName 6) (b := tiQ) (P := fun j env T => ∃ z row y f, env = tE n m q p S.length (some (dN k)) z row y f none ∧ T = tS S n m q p (k * m + j)) (env := tE n m q p S.length (some (dN k)) z row y f none) (T := tS S n m q p (k * m)) (rng1 (by omega) rfl) ⟨_, _, _, _, rfl, rfl⟩ (by
      rintro j env T hj ⟨z, row, y, f, rfl, rfl⟩
      obtain ⟨row', y', f', st⟩ := ti_q (S := S) (q := q) (p := p) hn hm hnm hk hj row y f
      exact ⟨_, _, _, rfl, st, _, _, _, _, rfl, rfl⟩)
    exact ⟨_, _, _, rfl, h3, _, _, _, _, _, rfl, by rw [Nat.succ_mul]⟩)
  have fin := eval_listed hnm (tS_tb (n := n) (m := m) (q := q) (p := p) S)
  refine Fof_pure (L := [.lst ((List.range (n * m)).map fun i => .lst (rowT m q p (n * m) i))]) (L' := [.lst ((List.range (n * m)).map fun i => .lst (rowT m q p (n * m) i))]) (d := relD (n * m) (prd m q p)) ?_ (by simp [frz]) (cl_ordD _ _ _)
  rw [run_ti_eq]
  refine seq_n (env' := [some (fD n q), some (fD m p), some (dN n), none, none, none, none, none, none, none, none]) (S' := S) (set_n (fd_n rfl)) ?_
  refine seq_n (env' := [some (fD n q), some (fD m p), some (dN n), some (dN m), none, none, none, none, none, none, none]) (S' := S) (set_n (fd_n (o := zVar 1) rfl)) ?_
  refine seq_n (env' := tE n m q p S.length none none none none none none) (S' := S ++ [.lst []]) (set_n (lstC_n nil_n (by simp [bigN]))) ?_
  refine seq_n h2 ?_
  exact ret_n (callF2 (op_n rfl rfl (mul_N (by omega) _)) rfl fin)
end
end K07

namespace K10
open PySem L2 Z K06
open PySem.Spec PyProof.Rows
variable [Tabs]
abbrev N__law_same : List Str := ["actual", "due", "k"]
noncomputable def run__law_same (F__law_same : List D → Sto → Rs D) : SM :=
    (zSeq (zIfS (zTru (zIsi ["tuple"] (zVar 1))) (zSeq (zIfS (zOr (zNot (zTru (zIsi ["tuple"] (zVar 0)))) (zB (zOp dNe (zCall dLen (zCons (zVar 0) zNil)) (zCall dLen (zCons (zVar 1) zNil))))) (zRet (zC (.bl false))) zNext)
    (zSeq (zFor (zRange1 (zCons (zCall dLen (zCons (zVar 1) zNil)) zNil)) (zgName 2) (zIfS (zNot (zTru (zCallF 2 F__law_same (zCons (zOp dIx (zVar 0) (zVar 2)) (zCons (zOp dIx (zVar 1) (zVar 2)) zNil))))) (zRet (zC (.bl false))) zNext))
    (zRet (zC (.bl true))))) zNext)
    (zSeq (zIfS (zB (zOp dIsN (zVar 1) (zC .non))) (zRet (zOp dIsN (zVar 0) (zC .non))) zNext)
    (zSeq (zIfS (zTru (zIsi ["bool"] (zVar 1))) (zRet (zAndV (zIsi ["bool"] (zVar 0)) (zOp dEq (zVar 0) (zVar 1)))) zNext)
    (zSeq (zIfS (zTru (zIsi ["str"] (zVar 1))) (zRet (zAndV (zIsi ["str"] (zVar 0)) (zOp dEq (zVar 0) (zVar 1)))) zNext)
    (zRet (zAndV (zIsi ["int"] (zVar 0)) (zAndV (zNotV (zIsi ["bool"] (zVar 0))) (zOp dEq (zVar 0) (zVar 1)))))))))
noncomputable def F__law_same : Nat → List D → Sto → Rs D
  | 0 => fun _ _ => .stk
  | k + 1 => Fof 0 N__law_same (run__law_same (F__law_same k))
abbrev N_with_selves : List Str := ["masks", "x", "mask"]
noncomputable def run_with_selves : SM :=
    (zRet (zLcK .frz [1, 2] (zEnum (zCons (zVar 0) zNil)) (zgTup 2 (zgCons (zgName 1) (zgCons (zgName 2) zgNil))) zYes (zOp dOr (zVar 2) (zOp dShl (zC (.int 1)) (zVar 1)))))
noncomputable def F_with_selves : List D → Sto → Rs D := Fof 0 N_with_selves run_with_selves
abbrev N_identity_map : List Str := ["order"]
noncomputable def run_identity_map : SM :=
    (zRet (zRgA .tup (zOp dIx (zVar 0) (zC (.int 0)))))
noncomputable def F_identity_map : List D → Sto → Rs D := Fof 0 N_identity_map run_identity_map
abbrev N__law_mixed : List Str := ["number", "turn", "many", "prime", "once", "twice"]
noncomputable def run__law_mixed : SM :=
    (zSeq (zSet 3 (zC (.int 2305843009213693951)))
    (zSeq (zSet 4 (zOp dMod (zCall dInt (zCons (zOp dAdd (zOp dAdd (zOp dMul (zVar 0) (zC (.int 48271))) (zOp dMul (zVar 1) (zC (.int 1000000000039)))) (zC (.int 12345678910111213))) zNil)) (zVar 3)))
    (zSeq (zSet 5 (zOp dMod (zOp dMul (zCall dInt (zCons (zOp dAdd (zOp dMul (zVar 4) (zVar 4)) (zVar 1)) zNil)) (zC (.int 7046029254386353))) (zVar 3)))
    (zRet (zOp dMod (zOp dDiv (zVar 5) (zC (.int 8))) (zVar 2))))))
noncomputable def F__law_mixed : List D → Sto → Rs D := Fof 0 N__law_mixed run__law_mixed
abbrev N__law_pool : List Str := ["script", "seed", "cell"]
noncomputable def run__law_pool : SM :=
    (zSeq (zSet 1 (zC (.int 7)))
    (zSeq (zFor (zSrc (zVar 0)) (zgName 2) (zSet 1 (zOp dMod (zCall dInt (zCons (zOp dAdd (zOp dMul (zVar 1) (zC (.int 1000003))) (zVar 2)) zNil)) (zC (.int 2305843009213693951)))))
    (zRet (zDict .cel [.inr "cells", .inr "at", .inr "rest", .inr "left", .inr "odd", .inr "seed", .inr "turn"] (zdCons (zCall dList (zCons (zVar 0) zNil)) (zdCons (zC (.int 0)) (zdCons (zC (.int 0)) (zdCons (zC (.int 0)) (zdCons (zC (.bl false)) (zdCons (zVar 1) (zdCons (zC (.int 0)) zNil)))))))))))
noncomputable def F__law_pool : List D → Sto → Rs D := Fof 0 N__law_pool run__law_pool
abbrev N__law_space : List Str := ["names", "up", "n", "under", "i", "pairs", "x", "row", "j", "k", "y"]
noncomputable def run__law_space : SM :=
    (zSeq (zSet 2 (zCall dLen (zCons (zVar 0) zNil)))
    (zSeq (zSet 3 (zLcK .cel [9] (zRange1 (zCons (zVar 2) zNil)) (zgName 9) zYes (zOp dMulC (zLst (zCons (zC (.int 0)) zNil)) (zVar 2))))
    (zSeq (zFor (zRange1 (zCons (zVar 2) zNil)) (zgName 4) (zSeq (zSet 7 (zOp dIx (zVar 3) (zOp dIx (zVar 0) (zVar 4))))
    (zFor (zRange1 (zCons (zVar 2) zNil)) (zgName 8) (zPut (zVar 7) (zOp dIx (zVar 0) (zVar 8)) (zOp dIx (zOp dIx (zVar 1) (zVar 4)) (zVar 8))))))
    (zSeq (zSet 5 (zLst zNil))
    (zSeq (zFor (zRange1 (zCons (zVar 2) zNil)) (zgName 6) (zSet 5 (zOp dAdd (zVar 5) (zLcK .frz [10] (zRange1 (zCons (zVar 2) zNil)) (zgName 10) (zB (zOp dEq (zOp dIx (zOp dIx (zVar 3) (zVar 6)) (zVar 10)) (zC (.int 1)))) (zTup (zCons (zVar 6) (zCons (zVar 10) zNil)))))))
    (zRet (zDict .frz [.inr "order", .inr "under", .inr "names"] (zdCons (zTup (zCons (zVar 2) (zCons (zCall dTuple (zCons (zVar 5) zNil)) zNil))) (zdCons (zVar 3) (zdCons (zVar 0) zNil))))))))))
noncomputable def F__law_space : List D → Sto → Rs D := Fof 3 N__law_space run__law_space
abbrev N__law_leq : List Str := ["space", "a", "b"]
noncomputable def run__law_leq : SM :=
    (zRet (zOrV (zOp dEq (zVar 1) (zVar 2)) (zOp dEq (zOp dIx (zOp dIx (zOp dGetD (zVar 0) (zC (.str "under"))) (zVar 1)) (zVar 2)) (zC (.int 1)))))
noncomputable def F__law_leq : List D → Sto → Rs D := Fof 0 N__law_leq run__law_leq
abbrev N__law_whether : List Str := ["told", "due"]
noncomputable def run__law_whether : SM :=
    (zRet (zAndV (zIsi ["bool"] (zVar 0)) (zOp dEq (zVar 0) (zVar 1))))
noncomputable def F__law_whether : List D → Sto → Rs D := Fof 0 N__law_whether run__law_whether
abbrev N__law_composed : List Str := ["row", "after", "found", "x"]
noncomputable def run__law_composed : SM :=
    (zSeq (zSet 2 (zTup zNil))
    (zSeq (zFor (zSrc (zVar 0)) (zgName 3) (zSet 2 (zOp dAdd (zVar 2) (zTup (zCons (zOp dIx (zVar 1) (zVar 3)) zNil)))))
    (zRet (zVar 2))))
noncomputable def F__law_composed : List D → Sto → Rs D := Fof 0 N__law_composed run__law_composed
abbrev N__law_take : List Str := ["pool", "many", "drawn", "cell"]
noncomputable def run__law_take : SM :=
    (zSeq (zPutD (zVar 0) (zC (.str "turn")) (zOp dAdd (zOp dGetD (zVar 0) (zC (.str "turn"))) (zC (.int 1))))
    (zSeq (zIfS (zAnd (zB (zOp dEq (zOp dGetD (zVar 0) (zC (.str "left"))) (zC (.int 0)))) (zB (zOp dLt (zOp dGetD (zVar 0) (zC (.str "at"))) (zCall dLen (zCons (zOp dGetD (zVar 0) (zC (.str "cells"))) zNil))))) (zSeq (zSet 3 (zCall dInt (zCons (zOp dIx (zOp dGetD (zVar 0) (zC (.str "cells"))) (zOp dGetD (zVar 0) (zC (.str "at")))) zNil)))
    (zSeq (zPutD (zVar 0) (zC (.str "at")) (zOp dAdd (zOp dGetD (zVar 0) (zC (.str "at"))) (zC (.int 1))))
    (zSeq (zPutD (zVar 0) (zC (.str "odd")) (zOp dEq (zOp dMod (zVar 3) (zC (.int 2))) (zC (.int 1))))
    (zSeq (zPutD (zVar 0) (zC (.str "rest")) (zOp dDiv (zCall dAbs (zCons (zVar 3) zNil)) (zC (.int 2))))
    (zPutD (zVar 0) (zC (.str "left")) (zOp dIx (zLst (zCons (zC (.int 60)) (zCons (zC (.int 6)) zNil))) (zCall dInt (zCons (zOp dGetD (zVar 0) (zC (.str "odd"))) zNil)))))))) zNext)
    (zSeq (zIfS (zB (zOp dEq (zOp dGetD (zVar 0) (zC (.str "left"))) (zC (.int 0)))) (zRet (zCallF 3 F__law_mixed (zCons (zOp dGetD (zVar 0) (zC (.str "seed"))) (zCons (zOp dGetD (zVar 0) (zC (.str "turn"))) (zCons (zVar 1) zNil))))) zNext)
    (zSeq (zPutD (zVar 0) (zC (.str "left")) (zOp dSub (zOp dGetD (zVar 0) (zC (.str "left"))) (zC (.int 1))))
    (zSeq (zIfS (zTru (zOp dGetD (zVar 0) (zC (.str "odd")))) (zRet (zCallF 3 F__law_mixed (zCons (zOp dGetD (zVar 0) (zC (.str "rest"))) (zCons (zOp dGetD (zVar 0) (zC (.str "turn"))) (zCons (zVar 1) zNil))))) zNext)
    (zSeq (zSet 2 (zOp dMod (zCall dInt (zCons (zOp dGetD (zVar 0) (zC (.str "rest"))) zNil)) (zVar 1)))
    (zSeq (zPutD (zVar 0) (zC (.str "rest")) (zOp dDiv (zOp dGetD (zVar 0) (zC (.str "rest"))) (zVar 1)))
    (zSeq (zIfS (zB (zOp dEq (zOp dGetD (zVar 0) (zC (.str "rest"))) (zC (.int 0)))) (zPutD (zVar 0) (zC (.str "left")) (zC (.int 0))) zNext)
    (zRet (zVar 2))))))))))
noncomputable def F__law_take : List D → Sto → Rs D := Fof 0 N__law_take run__law_take
abbrev N__law_rises : List Str := ["first", "second", "row", "x", "y"]
noncomputable def run__law_rises : SM :=
    (zSeq (zFor (zSrc (zOp dIx (zOp dGetD (zVar 0) (zC (.str "order"))) (zC (.int 1)))) (zgTup 2 (zgCons (zgName 3) (zgCons (zgName 4) zgNil))) (zIfS (zNot (zTru (zCallF 3 F__law_leq (zCons (zVar 1) (zCons (zOp dIx (zVar 2) (zVar 3)) (zCons (zOp dIx (zVar 2) (zVar 4)) zNil)))))) (zRet (zC (.bl false))) zNext))
    (zRet (zC (.bl true))))
noncomputable def F__law_rises : List D → Sto → Rs D := Fof 0 N__law_rises run__law_rises
abbrev N__law_bounds : List Str := ["space", "values", "q", "one"]
noncomputable def run__law_bounds : SM :=
    (zRet (zOp dEq (zCall dLen (zCons (zLcK .frz [3] (zSrc (zVar 1)) (zgName 3) (zNot (zTru (zCallF 3 F__law_leq (zCons (zVar 0) (zCons (zVar 3) (zCons (zVar 2) zNil)))))) (zVar 3)) zNil)) (zC (.int 0))))
noncomputable def F__law_bounds : List D → Sto → Rs D := Fof 0 N__law_bounds run__law_bounds
abbrev N__law_is_most : List Str := ["second", "low", "high", "x"]
noncomputable def run__law_is_most : SM :=
    (zRet (zOp dEq (zCall dLen (zCons (zLcK .frz [3] (zRange1 (zCons (zCall dLen (zCons (zVar 1) zNil)) zNil)) (zgName 3) (zNot (zTru (zCallF 3 F__law_leq (zCons (zVar 0) (zCons (zOp dIx (zVar 1) (zVar 3)) (zCons (zOp dIx (zVar 2) (zVar 3)) zNil)))))) (zVar 3)) zNil)) (zC (.int 0))))
noncomputable def F__law_is_most : List D → Sto → Rs D := Fof 0 N__law_is_most run__law_is_most
abbrev N__law_names : List Str := ["pool", "n", "left", "k"]
noncomputable def run__law_names : SM :=
    (zSeq (zIfS (zB (zOp dEq (zCallF 2 F__law_take (zCons (zVar 0) (zCons (zC (.int 4)) zNil))) (zC (.int 0)))) (zRet (zRgA .lst (zVar 1))) zNext)
    (zSeq (zSet 2 (zRgA .cel (zVar 1)))
    (zRet (zLcK .frz [3] (zRange1 (zCons (zVar 1) zNil)) (zgName 3) zYes (zMethL dPopAt (zVar 2) (zCons (zCallF 2 F__law_take (zCons (zVar 0) (zCons (zCall dLen (zCons (zVar 2) zNil)) zNil))) zNil))))))
noncomputable def F__law_names : List D → Sto → Rs D := Fof 0 N__law_names run__law_names
abbrev N__law_map : List Str := ["pool", "first", "second", "names", "row", "i", "values", "fit", "x", "value", "y", "q"]
noncomputable def run__law_map : SM :=
    (zSeq (zSet 3 (zOp dGetD (zVar 1) (zC (.str "names"))))
    (zSeq (zSet 4 (zLcK .cel [8] (zSrc (zVar 3)) (zgName 8) zYes (zC (.int 0))))
    (zSeq (zFor (zRange1 (zCons (zCall dLen (zCons (zVar 3) zNil)) zNil)) (zgName 5) (zSeq (zSet 6 (zLcK .frz [10] (zSrc (zSl (zVar 3) zNoPart (zPart (zVar 5)))) (zgName 10) (zB (zOp dEq (zOp dIx (zOp dIx (zOp dGetD (zVar 1) (zC (.str "under"))) (zVar 10)) (zOp dIx (zVar 3) (zVar 5))) (zC (.int 1)))) (zOp dIx (zVar 4) (zVar 10))))
    (zSeq (zSet 7 (zLcK .frz [11] (zRange1 (zCons (zOp dIx (zOp dGetD (zVar 2) (zC (.str "order"))) (zC (.int 0))) zNil)) (zgName 11) (zTru (zCallF 3 F__law_bounds (zCons (zVar 2) (zCons (zVar 6) (zCons (zVar 11) zNil))))) (zVar 11)))
    (zSeq (zIfS (zB (zOp dEq (zCall dLen (zCons (zVar 7) zNil)) (zC (.int 0)))) (zSeq (zSet 9 (zCallF 2 F__law_take (zCons (zVar 0) (zCons (zOp dIx (zOp dGetD (zVar 2) (zC (.str "order"))) (zC (.int 0))) zNil))))
    (zRet (zCall dTuple (zCons (zLcK .frz [8] (zSrc (zVar 3)) (zgName 8) zYes (zVar 9)) zNil)))) zNext)
    (zPut (zVar 4) (zOp dIx (zVar 3) (zVar 5)) (zOp dIx (zVar 7) (zCallF 2 F__law_take (zCons (zVar 0) (zCons (zCall dLen (zCons (zVar 7) zNil)) zNil)))))))))
    (zRet (zCall dTuple (zCons (zVar 4) zNil))))))
noncomputable def F__law_map : List D → Sto → Rs D := Fof 0 N__law_map run__law_map
abbrev N__law_moved : List Str := ["pool", "first", "second", "row", "up", "n", "turn", "x", "value", "other", "ends"]
noncomputable def run__law_moved : SM :=
    (zSeq (zSet 5 (zCall dLen (zCons (zVar 3) zNil)))
    (zSeq (zFor (zRange1 (zCons (zOp dMul (zCallF 2 F__law_take (zCons (zVar 0) (zCons (zC (.int 8)) zNil))) (zCall dInt (zCons (zOp dGt (zVar 5) (zC (.int 0))) zNil))) zNil)) (zgName 6) (zSeq (zSet 7 (zCallF 2 F__law_take (zCons (zVar 0) (zCons (zVar 5) zNil))))
    (zSeq (zSet 8 (zCallF 2 F__law_take (zCons (zVar 0) (zCons (zOp dIx (zOp dGetD (zVar 2) (zC (.str "order"))) (zC (.int 0))) zNil))))
    (zSeq (zSet 9 (zOp dAdd (zOp dAdd (zSl (zVar 3) zNoPart (zPart (zVar 7))) (zTup (zCons (zVar 8) zNil))) (zSl (zVar 3) (zPart (zOp dAdd (zVar 7) (zC (.int 1)))) zNoPart)))
    (zSeq (zSet 10 (zOp dIx (zLst (zCons (zLst (zCons (zVar 8) (zCons (zOp dIx (zVar 3) (zVar 7)) zNil))) (zCons (zLst (zCons (zOp dIx (zVar 3) (zVar 7)) (zCons (zVar 8) zNil))) zNil))) (zCall dInt (zCons (zVar 4) zNil))))
    (zIfS (zAnd (zTru (zCallF 3 F__law_leq (zCons (zVar 2) (zCons (zOp dIx (zVar 10) (zC (.int 0))) (zCons (zOp dIx (zVar 10) (zC (.int 1))) zNil))))) (zTru (zCallF 3 F__law_rises (zCons (zVar 1) (zCons (zVar 2) (zCons (zVar 9) zNil)))))) (zSet 3 (zVar 9)) zNext))))))
    (zRet (zVar 3))))
noncomputable def F__law_moved : List D → Sto → Rs D := Fof 0 N__law_moved run__law_moved
abbrev N__law_sizes : List Str := ["pool", "sizes", "k"]
noncomputable def run__law_sizes : SM :=
    (zSeq (zSet 1 (zLcK .cel [2] (zRange1 (zCons (zC (.int 4)) zNil)) (zgName 2) zYes (zOp dAdd (zC (.int 1)) (zCallF 2 F__law_take (zCons (zVar 0) (zCons (zC (.int 7)) zNil))))))
    (zSeq (zIfS (zB (zOp dEq (zCallF 2 F__law_take (zCons (zVar 0) (zCons (zC (.int 8)) zNil))) (zC (.int 0)))) (zFor (zRange1 (zCons (zOp dAdd (zC (.int 1)) (zCallF 2 F__law_take (zCons (zVar 0) (zCons (zC (.int 3)) zNil)))) zNil)) (zgName 2) (zPut (zVar 1) (zVar 2) (zC (.int 0)))) zNext)
    (zRet (zVar 1))))
noncomputable def F__law_sizes : List D → Sto → Rs D := Fof 1 N__law_sizes run__law_sizes
abbrev N__law_floors : List Str := ["pool", "n", "wide", "up", "i", "j"]
noncomputable def run__law_floors : SM :=
    (zSeq (zSet 3 (zLcK .frz [4] (zRange1 (zCons (zVar 1) zNil)) (zgName 4) zYes (zLcK .frz [5] (zRange1 (zCons (zVar 1) zNil)) (zgName 5) zYes (zCall dInt (zCons (zOp dLt (zOp dDiv (zVar 4) (zVar 2)) (zOp dDiv (zVar 5) (zVar 2))) zNil)))))
    (zRet (zCallF 2 F__law_space (zCons (zCallF 2 F__law_names (zCons (zVar 0) (zCons (zVar 1) zNil))) (zCons (zVar 3) zNil)))))
noncomputable def F__law_floors : List D → Sto → Rs D := Fof 0 N__law_floors run__law_floors
abbrev N__law_drawn : List Str := ["pool", "n", "way", "up", "i", "k", "row", "j"]
noncomputable def run__law_drawn : SM :=
    (zSeq (zSet 2 (zCallF 2 F__law_take (zCons (zVar 0) (zCons (zC (.int 6)) zNil))))
    (zSeq (zIfS (zB (zOp dLt (zVar 2) (zC (.int 2)))) (zRet (zCallF 3 F__law_floors (zCons (zVar 0) (zCons (zVar 1) (zCons (zOp dAdd (zC (.int 1)) (zCallF 2 F__law_take (zCons (zVar 0) (zCons (zOp dAdd (zVar 1) (zC (.int 1))) zNil)))) zNil))))) zNext)
    (zSeq (zSet 3 (zLcK .cel [5] (zRange1 (zCons (zVar 1) zNil)) (zgName 5) zYes (zOp dMulC (zLst (zCons (zC (.int 0)) zNil)) (zVar 1))))
    (zSeq (zFor (zRange1 (zCons (zVar 1) zNil)) (zgName 4) (zSeq (zSet 6 (zOp dIx (zVar 3) (zVar 4)))
    (zFor (zRange2 (zCons (zOp dAdd (zVar 4) (zC (.int 1))) (zCons (zVar 1) zNil))) (zgName 7) (zPut (zVar 6) (zVar 7) (zCall dInt (zCons (zOp dEq (zCallF 2 F__law_take (zCons (zVar 0) (zCons (zOp dIx (zLst (zCons (zC (.int 2)) (zCons (zC (.int 3)) (zCons (zC (.int 4)) (zCons (zC (.int 6)) zNil))))) (zOp dSub (zVar 2) (zC (.int 2)))) zNil))) (zC (.int 0))) zNil))))))
    (zSeq (zFor (zRange1 (zCons (zVar 1) zNil)) (zgName 5) (zFor (zRange1 (zCons (zVar 5) zNil)) (zgName 4) (zIfS (zB (zOp dEq (zOp dIx (zOp dIx (zVar 3) (zVar 4)) (zVar 5)) (zC (.int 1)))) (zPut (zVar 3) (zVar 4) (zLcK .frz [7] (zRange1 (zCons (zVar 1) zNil)) (zgName 7) zYes (zCall dInt (zCons (zOp dGt (zOp dAdd (zOp dIx (zOp dIx (zVar 3) (zVar 4)) (zVar 7)) (zOp dIx (zOp dIx (zVar 3) (zVar 5)) (zVar 7))) (zC (.int 0))) zNil)))) zNext)))
    (zRet (zCallF 2 F__law_space (zCons (zCallF 2 F__law_names (zCons (zVar 0) (zCons (zVar 1) zNil))) (zCons (zVar 3) zNil)))))))))
noncomputable def F__law_drawn : List D → Sto → Rs D := Fof 0 N__law_drawn run__law_drawn
abbrev N_compose : List Str := ["row", "after", "value"]
noncomputable def run_compose : SM :=
    (zRet (zTG [2] (zSrc (zVar 0)) (zgName 2) zYes (zOp dIx (zVar 1) (zVar 2))))
noncomputable def F_compose : List D → Sto → Rs D := Fof 0 N_compose run_compose
abbrev N_is_row_at_most : List Str := ["higher", "low", "high", "x", "value"]
noncomputable def run_is_row_at_most : SM :=
    (zRet (zQG true [3, 4] (zEnumB (zCons (zVar 1) zNil)) (zgTup 2 (zgCons (zgName 3) (zgCons (zgName 4) zgNil))) zYes (zOp dAnd (zOp dShr (zOp dIx (zVar 0) (zVar 4)) (zOp dIx (zVar 2) (zVar 3))) (zC (.int 1)))))
noncomputable def F_is_row_at_most : List D → Sto → Rs D := Fof 0 N_is_row_at_most run_is_row_at_most
abbrev N_at_most : List Str := ["second", "low", "high"]
noncomputable def run_at_most : SM :=
    (zRet (zCallF 3 F_is_row_at_most (zCons (zCallF 1 F_with_selves (zCons (zCallF 1 F_masks_above (zCons (zVar 0) zNil)) zNil)) (zCons (zVar 1) (zCons (zVar 2) zNil)))))
noncomputable def F_at_most : List D → Sto → Rs D := Fof 0 N_at_most run_at_most
abbrev N__law_composes_right : List Str := ["spaces", "rows", "k", "both", "later", "due", "row", "ends", "j", "x"]
noncomputable def run__law_composes_right : SM :=
    (zSeq (zFor (zRange1 (zCons (zC (.int 3)) zNil)) (zgName 2) (zSeq (zSet 6 (zOp dIx (zVar 1) (zVar 2)))
    (zSeq (zSet 7 (zLst (zCons (zCallF 1 F_identity_map (zCons (zOp dGetD (zOp dIx (zVar 0) (zVar 2)) (zC (.str "order"))) zNil)) (zCons (zCallK 1 F_identity_map [0] zNil (zCons (zOp dGetD (zOp dIx (zVar 0) (zOp dAdd (zVar 2) (zC (.int 1)))) (zC (.str "order"))) zNil)) zNil))))
    (zSeq (zFor (zRange1 (zCons (zC (.int 2)) zNil)) (zgName 8) (zIfS (zNot (zTru (zCallF 2 (F__law_same 8) (zCons (zOp dIx (zVar 7) (zVar 8)) (zCons (zRgA .tup (zOp dIx (zOp dGetD (zOp dIx (zVar 0) (zOp dAdd (zVar 2) (zVar 8))) (zC (.str "order"))) (zC (.int 0)))) zNil))))) (zRet (zC (.bl false))) zNext))
    (zIfS (zOr (zNot (zTru (zCallF 2 (F__law_same 8) (zCons (zCallF 2 F_compose (zCons (zOp dIx (zVar 7) (zC (.int 0))) (zCons (zVar 6) zNil))) (zCons (zVar 6) zNil))))) (zNot (zTru (zCallF 2 (F__law_same 8) (zCons (zCallK 2 F_compose [0, 1] zNil (zCons (zVar 6) (zCons (zOp dIx (zVar 7) (zC (.int 1))) zNil))) (zCons (zVar 6) zNil)))))) (zRet (zC (.bl false))) zNext)))))
    (zSeq (zSet 3 (zCallF 2 F__law_composed (zCons (zOp dIx (zVar 1) (zC (.int 0))) (zCons (zOp dIx (zVar 1) (zC (.int 1))) zNil))))
    (zSeq (zSet 4 (zCallF 2 F__law_composed (zCons (zOp dIx (zVar 1) (zC (.int 1))) (zCons (zOp dIx (zVar 1) (zC (.int 2))) zNil))))
    (zSeq (zIfS (zOr (zNot (zTru (zCallF 2 (F__law_same 8) (zCons (zCallF 2 F_compose (zCons (zOp dIx (zVar 1) (zC (.int 0))) (zCons (zOp dIx (zVar 1) (zC (.int 1))) zNil))) (zCons (zVar 3) zNil))))) (zNot (zTru (zCallF 2 (F__law_same 8) (zCons (zCallK 2 F_compose [1, 0] zNil (zCons (zOp dIx (zVar 1) (zC (.int 2))) (zCons (zOp dIx (zVar 1) (zC (.int 1))) zNil))) (zCons (zVar 4) zNil)))))) (zRet (zC (.bl false))) zNext)
    (zSeq (zSet 5 (zCall dTuple (zCons (zLcK .frz [9] (zSrc (zVar 3)) (zgName 9) zYes (zOp dIx (zOp dIx (zVar 1) (zC (.int 2))) (zVar 9))) zNil)))
    (zRet (zAndV (zCallF 2 (F__law_same 8) (zCons (zCallF 2 F_compose (zCons (zVar 3) (zCons (zOp dIx (zVar 1) (zC (.int 2))) zNil))) (zCons (zVar 5) zNil))) (zCallF 2 (F__law_same 8) (zCons (zCallF 2 F_compose (zCons (zOp dIx (zVar 1) (zC (.int 0))) (zCons (zVar 4) zNil))) (zCons (zVar 5) zNil))))))))))
noncomputable def F__law_composes_right : List D → Sto → Rs D := Fof 0 N__law_composes_right run__law_composes_right
abbrev N__law_turns_right : List Str := ["pool", "space", "one", "two"]
noncomputable def run__law_turns_right : SM :=
    (zSeq (zSet 2 (zCallF 3 F__law_map (zCons (zVar 0) (zCons (zVar 1) (zCons (zVar 1) zNil)))))
    (zSeq (zSet 3 (zCallF 3 F__law_map (zCons (zVar 0) (zCons (zVar 1) (zCons (zVar 1) zNil)))))
    (zSeq (zIfS (zNot (zTru (zCallF 2 (F__law_same 8) (zCons (zCallF 2 F_compose (zCons (zVar 2) (zCons (zVar 3) zNil))) (zCons (zCallF 2 F__law_composed (zCons (zVar 2) (zCons (zVar 3) zNil))) zNil))))) (zRet (zC (.bl false))) zNext)
    (zRet (zCallF 2 (F__law_same 8) (zCons (zCallF 2 F_compose (zCons (zVar 3) (zCons (zVar 2) zNil))) (zCons (zCallF 2 F__law_composed (zCons (zVar 3) (zCons (zVar 2) zNil))) zNil)))))))
noncomputable def F__law_turns_right : List D → Sto → Rs D := Fof 0 N__law_turns_right run__law_turns_right
abbrev N_are_neighbours : List Str := ["second", "row", "other"]
noncomputable def run_are_neighbours : SM :=
    (zRet (zOrV (zCallF 3 F_at_most (zCons (zVar 0) (zCons (zVar 1) (zCons (zVar 2) zNil)))) (zCallF 3 F_at_most (zCons (zVar 0) (zCons (zVar 2) (zCons (zVar 1) zNil))))))
noncomputable def F_are_neighbours : List D → Sto → Rs D := Fof 0 N_are_neighbours run_are_neighbours
abbrev N__law_pairs_right : List Str := ["second", "maps", "low", "high", "most", "near"]
noncomputable def run__law_pairs_right : SM :=
    (zSeq (zFor (zSrc (zVar 1)) (zgName 2) (zFor (zSrc (zVar 1)) (zgName 3) (zSeq (zSet 4 (zCallF 3 F__law_is_most (zCons (zVar 0) (zCons (zVar 2) (zCons (zVar 3) zNil)))))
    (zSeq (zSet 5 (zOrV (zVar 4) (zCallF 3 F__law_is_most (zCons (zVar 0) (zCons (zVar 3) (zCons (zVar 2) zNil))))))
    (zSeq (zIfS (zNot (zTru (zCallF 2 F__law_whether (zCons (zCallF 3 F_at_most (zCons (zOp dGetD (zVar 0) (zC (.str "order"))) (zCons (zVar 2) (zCons (zVar 3) zNil)))) (zCons (zVar 4) zNil))))) (zRet (zC (.bl false))) zNext)
    (zSeq (zIfS (zNot (zTru (zCallF 2 F__law_whether (zCons (zCallK 3 F_at_most [2, 1, 0] zNil (zCons (zVar 3) (zCons (zVar 2) (zCons (zOp dGetD (zVar 0) (zC (.str "order"))) zNil)))) (zCons (zVar 4) zNil))))) (zRet (zC (.bl false))) zNext)
    (zSeq (zIfS (zNot (zTru (zCallF 2 F__law_whether (zCons (zCallF 3 F_are_neighbours (zCons (zOp dGetD (zVar 0) (zC (.str "order"))) (zCons (zVar 2) (zCons (zVar 3) zNil)))) (zCons (zVar 5) zNil))))) (zRet (zC (.bl false))) zNext)
    (zIfS (zNot (zTru (zCallF 2 F__law_whether (zCons (zCallK 3 F_are_neighbours [2, 1, 0] zNil (zCons (zVar 2) (zCons (zVar 3) (zCons (zOp dGetD (zVar 0) (zC (.str "order"))) zNil)))) (zCons (zVar 5) zNil))))) (zRet (zC (.bl false))) zNext))))))))
    (zRet (zC (.bl true))))
noncomputable def F__law_pairs_right : List D → Sto → Rs D := Fof 0 N__law_pairs_right run__law_pairs_right
abbrev N_law : List Str := ["script", "pool", "spaces", "rows", "k", "first", "second", "higher", "lower", "aside", "size"]
noncomputable def run_law : SM :=
    (zSeq (zSet 1 (zCallF 1 F__law_pool (zCons (zVar 0) zNil)))
    (zSeq (zSet 2 (zLcK .frz [10] (zSrc (zCallF 1 F__law_sizes (zCons (zVar 1) zNil))) (zgName 10) zYes (zCallF 2 F__law_drawn (zCons (zVar 1) (zCons (zVar 10) zNil)))))
    (zSeq (zSet 3 (zLcK .frz [4] (zRange1 (zCons (zC (.int 3)) zNil)) (zgName 4) zYes (zCallF 3 F__law_map (zCons (zVar 1) (zCons (zOp dIx (zVar 2) (zVar 4)) (zCons (zOp dIx (zVar 2) (zOp dAdd (zVar 4) (zC (.int 1)))) zNil))))))
    (zSeq (zIfS (zOr (zNot (zTru (zCallF 2 F__law_composes_right (zCons (zVar 2) (zCons (zVar 3) zNil))))) (zNot (zTru (zCallF 2 F__law_turns_right (zCons (zVar 1) (zCons (zOp dIx (zVar 2) (zC (.int 3))) zNil)))))) (zRet (zC (.bl false))) zNext)
    (zSeq (zSet 4 (zCallF 2 F__law_take (zCons (zVar 1) (zCons (zC (.int 3)) zNil))))
    (zSeq (zSet 5 (zOp dIx (zVar 2) (zVar 4)))
    (zSeq (zSet 6 (zOp dIx (zVar 2) (zOp dAdd (zVar 4) (zC (.int 1)))))
    (zSeq (zSet 7 (zCallF 5 F__law_moved (zCons (zVar 1) (zCons (zVar 5) (zCons (zVar 6) (zCons (zOp dIx (zVar 3) (zVar 4)) (zCons (zC (.bl true)) zNil)))))))
    (zSeq (zSet 8 (zCallF 5 F__law_moved (zCons (zVar 1) (zCons (zVar 5) (zCons (zVar 6) (zCons (zOp dIx (zVar 3) (zVar 4)) (zCons (zC (.bl false)) zNil)))))))
    (zSeq (zSet 9 (zCallF 5 F__law_moved (zCons (zVar 1) (zCons (zVar 5) (zCons (zVar 6) (zCons (zVar 7) (zCons (zC (.bl false)) zNil)))))))
    (zRet (zCallF 2 F__law_pairs_right (zCons (zVar 6) (zCons (zLst (zCons (zOp dIx (zVar 3) (zVar 4)) (zCons (zVar 7) (zCons (zVar 8) (zCons (zVar 9) (zCons (zCallF 3 F__law_map (zCons (zVar 1) (zCons (zVar 5) (zCons (zVar 6) zNil)))) zNil)))))) zNil))))))))))))))
noncomputable def F_law : List D → Sto → Rs D := Fof 0 N_law run_law
end K10

namespace K10
open PySem L2 Z K06
open PySem.Spec PyProof.Rows
variable [Tabs]
/-! ### the pool -/
abbrev KS : List Key := [.inr "cells", .inr "at", .inr "rest", .inr "left", .inr "odd", .inr "seed", .inr "turn"]
def poolC (cs : List Int) (at_ : Nat) (rest left : Int) (odd : Bool) (seed turn : Int) : C := .dct KS [.lst (cs.map D.int), .int at_, .int rest, .int left, .bl odd, .int seed, .int turn]
def PoolOk (c : C) : Prop := ∃ cs at_ rest left odd seed turn, c = poolC cs at_ rest left odd seed turn
@[simp] theorem k0 : findK KS (.inr "cells") = some 0 := by decide +kernel
@[simp] theorem k1 : findK KS (.inr "at") = some 1 := by decide +kernel
@[simp] theorem k2 : findK KS (.inr "rest") = some 2 := by decide +kernel
@[simp] theorem k3 : findK KS (.inr "left") = some 3 := by decide +kernel
@[simp] theorem k4 : findK KS (.inr "odd") = some 4 := by decide +kernel
@[simp] theorem k5 : findK KS (.inr "seed") = some 5 := by decide +kernel
@[simp] theorem k6 : findK KS (.inr "turn") = some 6 := by decide +kernel
theorem ksN : KS.Nodup := by decide +kernel
section
variable {S : Sto} {ib : Nat} {cs : List Int} {a : Nat} {r l s t v : Int} {o b : Bool} (h : ib < S.length)
include h
theorem dct_at (ks : List Key) (ds : List D) : dctOf (.ptr ib) (S.set ib (.dct ks ds)) = some (ks, ds) := by simp [dctOf, h]
theorem g_x {k : Str} {i : Nat} {d : D} {ks : List Key} {ds : List D} (hk : findK ks (.inr k) = some i) (hd : ds[i]? = some d) : dGetD (.ptr ib) (.str k) (S.set ib (.dct ks ds)) = .ok d (S.set ib (.dct ks ds)) := by
  unfold dGetD
  rw [dct_at h]
  simp [dKey, hk, hd]
theorem p_x {k : Str} {i : Nat} {d : D} {ks : List Key} {ds : List D} (hk : findK ks (.inr k) = some i) (hn : ks.Nodup) (hl : ks.length < dctMax) : dPutS (.ptr ib) (.str k) d (S.set ib (.dct ks ds)) = some (S.set ib (.dct ks (ds.set i d))) := by
  unfold dPutS
  have e : (S.set ib (.dct ks ds))[ib]? = some (.dct ks ds) := by simp [h]
  simp only [dKey, e]
  rw [if_pos ⟨hl, hn⟩]
  simp only [hk, List.set_set]
@[simp] theorem g0 : dGetD (.ptr ib) (.str "cells") (S.set ib (poolC cs a r l o s t)) = .ok (.lst (cs.map D.int)) (S.set ib (poolC cs a r l o s t)) := g_x h k0 rfl
@[simp] theorem g1 : dGetD (.ptr ib) (.str "at") (S.set ib (poolC cs a r l o s t)) = .ok (.int a) (S.set ib (poolC cs a r l o s t)) := g_x h k1 rfl
@[simp] theorem g2 : dGetD (.ptr ib) (.str "rest") (S.set ib (poolC cs a r l o s t)) = .ok (.int r) (S.set ib (poolC cs a r l o s t)) := g_x h k2 rfl
@[simp] theorem g3 : dGetD (.ptr ib) (.str "left") (S.set ib (poolC cs a r l o s t)) = .ok (.int l) (S.set ib (poolC cs a r l o s t)) := g_x h k3 rfl
@[simp] theorem g4 : dGetD (.ptr ib) (.str "odd") (S.set ib (poolC cs a r l o s t)) = .ok (.bl o) (S.set ib (poolC cs a r l o s t)) := g_x h k4 rfl
@[simp] theorem g5 : dGetD (.ptr ib) (.str "seed") (S.set ib (poolC cs a r l o s t)) = .ok (.int s) (S.set ib (poolC cs a r l o s t)) := g_x h k5 rfl
@[simp] theorem g6 : dGetD (.ptr ib) (.str "turn") (S.set ib (poolC cs a r l o s t)) = .ok (.int t) (S.set ib (poolC cs a r l o s t)) := g_x h k6 rfl
@[simp] theorem p1 : dPutS (.ptr ib) (.str "at") (.int ((a : Int) + 1)) (S.set ib (poolC cs a r l o s t)) = some (S.set ib (poolC cs (a + 1) r l o s t)) := (p_x h k1 ksN (by decide)).trans (by simp [poolC])
@[simp] theorem p2 : dPutS (.ptr ib) (.str "rest") (.int v) (S.set ib (poolC cs a r l o s t)) = some (S.set ib (poolC cs a v l o s t)) := p_x h k2 ksN (by decide)
@[simp] theorem p3 : dPutS (.ptr ib) (.str "left") (.int v) (S.set ib (poolC cs a r l o s t)) = some (S.set ib (poolC cs a r v o s t)) := p_x h k3 ksN (by decide)
@[simp] theorem p4 : dPutS (.ptr ib) (.str "odd") (.bl b) (S.set ib (poolC cs a r l o s t)) = some (S.set ib (poolC cs a r l b s t)) := p_x h k4 ksN (by decide)
@[simp] theorem p6 : dPutS (.ptr ib) (.str "turn") (.int v) (S.set ib (poolC cs a r l o s t)) = some (S.set ib (poolC cs a r l o s v)) := p_x h k6 ksN (by decide)
end
section
variable {env : En} {S S1 S2 S3 S4 : Sto} {a b c : EM D} {d d1 d2 : D}
theorem putD_n (h : c env S = .ok d S1) (h1 : a env S1 = .ok d1 S2) (h2 : b env S2 = .ok d2 S3) (h3 : dPutS d1 d2 d S3 = some S4) : zPutD a b c env S = .mk (.next env) S4 := by
  simp [zPutD, h, h1, h2, h3, Rs.st]
@[simp] theorem u_zPutD : zPutD a b c env S = (c env S).st env fun v S1 => (a env S1).st env fun x S2 => (b env S2).st env fun y S3 => match dPutS x y v S3 with
  | some S4 => .mk (.next env) S4
  | none => .stk := rfl
end
/-- what a draw may change -/
structure Eff (ib : Nat) (S S' : Sto) : Prop where
  at_ : ∃ c, S'[ib]? = some c ∧ PoolOk c
  len : S'.length = S.length
  same : ∀ n, n ≠ ib → S'[n]? = S[n]?
def PoolAt (ib : Nat) (S : Sto) : Prop := ∃ c, S[ib]? = some c ∧ PoolOk c
theorem cl_pool {k : Nat} {c : C} (h : PoolOk c) : C.cl k c := by
  obtain ⟨cs, at_, rest, left, odd, seed, turn, rfl⟩ := h
  exact ⟨cls_map (f := D.int) (fun a => show D.cl k (.int a) from trivial) cs, trivial, trivial, trivial, trivial, trivial, trivial, trivial⟩
section
variable {ib : Nat} {S S' S1 L : Sto}
theorem PoolAt.lt (h : PoolAt ib S) : ib < S.length := let ⟨_, h, _⟩ := h; (List.getElem?_eq_some_iff.mp h).1
theorem PoolAt.app (h : PoolAt ib S) (L : Sto) : PoolAt ib (S ++ L) := let ⟨c, h1, h2⟩ := h; ⟨c, by rw [List.getElem?_append_left h.lt]; exact h1, h2⟩
theorem Eff.rfl' (h : PoolAt ib S) : Eff ib S S := ⟨h, rfl, fun _ _ => rfl⟩
theorem Eff.trans (h : Eff ib S S1) (h' : Eff ib S1 S') : Eff ib S S' := ⟨h'.at_, h'.len.trans h.len, fun n hn => (h'.same n hn).trans (h.same n hn)⟩
theorem Eff.set {c : C} (h : PoolAt ib S) (hc : PoolOk c) : Eff ib S (S.set ib c) :=
  ⟨⟨c, by simp [h.lt], hc⟩, by simp, fun n hn => by rw [List.getElem?_set_ne (Ne.symm hn)]⟩
theorem Eff.app (h : Eff ib S S') (L : Sto) : Eff ib (S ++ L) (S' ++ L) := by
  have hl : ib < S'.length := PoolAt.lt h.at_
  obtain ⟨c, h1, h2⟩ := h.at_
  refine ⟨⟨c, by rw [List.getElem?_append_left hl]; exact h1, h2⟩, by simp [h.len], fun n hn => ?_⟩
  by_cases e : n < S'.length
  · rw [List.getElem?_append_left e, List.getElem?_append_left (by rw [← h.len]; exact e)]; exact h.same n hn
  · have e' : S'.length ≤ n := Nat.le_of_not_lt e
    rw [List.getElem?_append_right e', List.getElem?_append_right (by rw [← h.len]; exact e'), h.len]
/-- what is behind the pool's store stays -/
theorem Eff.split (hp : ib < S.length) (h : Eff ib (S ++ L) S') : ∃ S0, S' = S0 ++ L ∧ Eff ib S S0 := by
  refine ⟨S'.take S.length, ?_, ?_⟩
  · apply List.ext_getElem?
    intro n
    have hl := h.len
    rw [List.length_append] at hl
    by_cases e : n < S.length
    · rw [List.getElem?_append_left (by rw [List.length_take]; omega), List.getElem?_take_of_lt e]
    · have e' := Nat.le_of_not_lt e
      rw [List.getElem?_append_right (by rw [List.length_take]; omega), List.length_take, h.same n (by omega), List.getElem?_append_right e']
      congr 1; omega
  · obtain ⟨c, h1, h2⟩ := h.at_
    have hl := h.len
    rw [List.length_append] at hl
    refine ⟨⟨c, by rw [List.getElem?_take_of_lt hp]; exact h1, h2⟩, by rw [List.length_take]; omega, fun n hn => ?_⟩
    by_cases e : n < S.length
    · rw [List.getElem?_take_of_lt e, h.same n hn, List.getElem?_append_left e]
    · have e' := Nat.le_of_not_lt e
      rw [List.getElem?_eq_none (by rw [List.length_take]; omega), List.getElem?_eq_none e']
theorem Eff.shut {d : D} (h : Eff ib S S') (hd : D.cl S.length d) : Shut S d (S' ++ L) := by
  refine ⟨by rw [List.length_append, h.len]; omega, hd, fun n c' hn e => ?_⟩
  rw [List.getElem?_append_left (by rw [h.len]; exact hn)] at e
  by_cases q : n = ib
  · subst q
    obtain ⟨c, h1, h2⟩ := h.at_
    rw [h1] at e; cases e
    exact .inr (cl_pool h2)
  · rw [h.same n q] at e; exact .inl e
theorem Fof_eff {fu : Nat} {N : List Str} {run : SM} {ds : List D} {d d' : D} {L' : Sto} (h : run (startE N ds) S = .mk (.ret d) (S' ++ L)) (hf : frz fu d (S' ++ L) = some (d', S' ++ L')) (e : Eff ib S S') (hd : D.cl S.length d') : Fof fu N run ds S = .ok d' S' := by
  rw [Fof_same h hf (e.shut hd), List.take_left' e.len]
theorem Fof_eff0 {N : List Str} {run : SM} {ds : List D} {d : D} (h : run (startE N ds) S = .mk (.ret d) S') (e : Eff ib S S') (hd : D.cl S.length d) : Fof 0 N run ds S = .ok d S' := by
  refine Fof_eff (L := []) (L' := []) (fu := 0) ?_ (by unfold frz; rfl) e hd
  rw [List.append_nil]; exact h
theorem Fof_effL {N : List Str} {run : SM} {ds : List D} {d : D} (h : run (startE N ds) S = .mk (.ret d) (S' ++ L)) (e : Eff ib S S') (hd : D.cl S.length d) : Fof 0 N run ds S = .ok d S' :=
  Fof_eff (L := L) (L' := L) (fu := 0) h (by unfold frz; rfl) e hd
end
theorem eval_mixed (a t : Int) {many : Int} (h : 0 < many) (S : Sto) : ∃ v : Int, F__law_mixed [.int a, .int t, .int many] S = .ok (.int v) S ∧ 0 ≤ v ∧ v < many := by
  have h1 : ∀ x : Int, -18446744073709551616 < x % 2305843009213693951 := fun x => by omega
  have h2 : ∀ x : Int, x % 2305843009213693951 < 18446744073709551616 := fun x => by omega
  have e : ∃ v : Int, run__law_mixed (startE N__law_mixed [.int a, .int t, .int many]) S = .mk (.ret (.int (v % many))) S := by
    simp [run__law_mixed, h1, h2, h]
    exact ⟨_, rfl⟩
  obtain ⟨v, e⟩ := e
  exact ⟨_, Fof_ret0 e trivial, Int.emod_nonneg _ (by omega), Int.emod_lt_of_pos _ h⟩
theorem take_tail {S : Sto} {ib : Nat} (hib : ib < S.length) {many : Int} (h1 : 0 < many) (h2 : many < 1073741824) (x y : Option D) (cs : List Int) (a : Nat) (r l : Int) (o : Bool) (s t : Int) :
    ∃ (d : Int) (c' : C), (zSeq (zIfS (zB (zOp dEq (zOp dGetD (zVar 0) (zC (.str "left"))) (zC (.int 0)))) (zRet (zCallF 3 F__law_mixed (zCons (zOp dGetD (zVar 0) (zC (.str "seed"))) (zCons (zOp dGetD (zVar 0) (zC (.str "turn"))) (zCons (zVar 1) zNil))))) zNext)
    (zSeq (zPutD (zVar 0) (zC (.str "left")) (zOp dSub (zOp dGetD (zVar 0) (zC (.str "left"))) (zC (.int 1))))
    (zSeq (zIfS (zTru (zOp dGetD (zVar 0) (zC (.str "odd")))) (zRet (zCallF 3 F__law_mixed (zCons (zOp dGetD (zVar 0) (zC (.str "rest"))) (zCons (zOp dGetD (zVar 0) (zC (.str "turn"))) (zCons (zVar 1) zNil))))) zNext)
    (zSeq (zSet 2 (zOp dMod (zCall dInt (zCons (zOp dGetD (zVar 0) (zC (.str "rest"))) zNil)) (zVar 1)))
    (zSeq (zPutD (zVar 0) (zC (.str "rest")) (zOp dDiv (zOp dGetD (zVar 0) (zC (.str "rest"))) (zVar 1)))
    (zSeq (zIfS (zB (zOp dEq (zOp dGetD (zVar 0) (zC (.str "rest"))) (zC (.int 0)))) (zPutD (zVar 0) (zC (.str "left")) (zC (.int 0))) zNext)
    (zRet (zVar 2)))))))) [some (.ptr ib), some (.int many), x, y] (S.set ib (poolC cs a r l o s t)) = .mk (.ret (.int d)) (S.set ib c') ∧ PoolOk c' ∧ 0 ≤ d ∧ d < many := by
  by_cases hl : l = 0
  · subst hl
    obtain ⟨v, e1, e2, e3⟩ := eval_mixed s t h1 (S.set ib (poolC cs a r 0 o s t))
    exact ⟨v, poolC cs a r 0 o s t, by simp [hib, e1], ⟨_, _, _, _, _, _, _, rfl⟩, e2, e3⟩
  · cases o with
    | true =>
      obtain ⟨v, e1, e2, e3⟩ := eval_mixed r t h1 (S.set ib (poolC cs a r (l - 1) true s t))
      exact ⟨v, poolC cs a r (l - 1) true s t, by simp [hib, e1, hl], ⟨_, _, _, _, _, _, _, rfl⟩, e2, e3⟩
    | false =>
      by_cases hr : r / many = 0
      · exact ⟨r % many, poolC cs a (r / many) 0 false s t, by simp [hib, hl, h1, h2, hr], ⟨_, _, _, _, _, _, _, rfl⟩, Int.emod_nonneg _ (by omega), Int.emod_lt_of_pos _ h1⟩
      · exact ⟨r % many, poolC cs a (r / many) (l - 1) false s t, by simp [hib, hl, h1, h2, hr], ⟨_, _, _, _, _, _, _, rfl⟩, Int.emod_nonneg _ (by omega), Int.emod_lt_of_pos _ h1⟩
theorem eval_take {S : Sto} {ib : Nat} (hP : PoolAt ib S) {many : Int} (h1 : 0 < many) (h2 : many < 1073741824) :
    ∃ (d : Nat) (S' : Sto), F__law_take [.ptr ib, .int many] S = .ok (.int d) S' ∧ Eff ib S S' ∧ (d : Int) < many := by
  have hib := hP.lt
  obtain ⟨c, hS, cs, a, r, l, o, s, t, rfl⟩ := id hP
  have fin : ∀ {x y : Option D} {a' : Nat} {r' l' : Int} {o' : Bool}, (zSeq (zPutD (zVar 0) (zC (.str "turn")) (zOp dAdd (zOp dGetD (zVar 0) (zC (.str "turn"))) (zC (.int 1)))) (zIfS (zAnd (zB (zOp dEq (zOp dGetD (zVar 0) (zC (.str "left"))) (zC (.int 0)))) (zB (zOp dLt (zOp dGetD (zVar 0) (zC (.str "at"))) (zCall dLen (zCons (zOp dGetD (zVar 0) (zC (.str "cells"))) zNil))))) (zSeq (zSet 3 (zCall dInt (zCons (zOp dIx (zOp dGetD (zVar 0) (zC (.str "cells"))) (zOp dGetD (zVar 0) (zC (.str "at")))) zNil)))
    (zSeq (zPutD (zVar 0) (zC (.str "at")) (zOp dAdd (zOp dGetD (zVar 0) (zC (.str "at"))) (zC (.int 1))))
    (zSeq (zPutD (zVar 0) (zC (.str "odd")) (zOp dEq (zOp dMod (zVar 3) (zC (.int 2))) (zC (.int 1))))
    (zSeq (zPutD (zVar 0) (zC (.str "rest")) (zOp dDiv (zCall dAbs (zCons (zVar 3) zNil)) (zC (.int 2))))
    (zPutD (zVar 0) (zC (.str "left")) (zOp dIx (zLst (zCons (zC (.int 60)) (zCons (zC (.int 6)) zNil))) (zCall dInt (zCons (zOp dGetD (zVar 0) (zC (.str "odd"))) zNil)))))))) zNext)) (startE N__law_take [.ptr ib, .int many]) (S.set ib (poolC cs a r l o s t)) = .mk (.next [some (.ptr ib), some (.int many), x, y]) (S.set ib (poolC cs a' r' l' o' s (t + 1))) →
      ∃ (d : Nat) (S' : Sto), F__law_take [.ptr ib, .int many] S = .ok (.int d) S' ∧ Eff ib S S' ∧ (d : Int) < many := by
    intro x y a' r' l' o' h
    obtain ⟨d, c', q1, q2, q3, q4⟩ := take_tail hib h1 h2 x y cs a' r' l' o' s (t + 1)
    obtain ⟨k, rfl⟩ := Int.eq_ofNat_of_zero_le q3
    refine ⟨k, _, Fof_eff0 ?_ (Eff.set hP q2) trivial, Eff.set hP q2, q4⟩
    conv => lhs; rw [← set_same hS]
    rw [← q1]
    unfold run__law_take
    have assoc : ∀ (u v w : SM) (env : En) (S : Sto), zSeq u (zSeq v w) env S = zSeq (zSeq u v) w env S := fun u v w env S => by
      show ((u env S).seq fun e T => (v e T).seq w) = ((u env S).seq v).seq w
      cases u env S with
      | stk => rfl
      | mk fl S1 => cases fl <;> rfl
    rw [assoc]
    exact seq_n h rfl
  by_cases g : l = 0 ∧ (a : Int) < cs.length
  · obtain ⟨rfl, ga⟩ := g
    have hk : a < cs.length := by omega
    have a1 : L2.atI (cs.map D.int) (a : Int) = some (.int cs[a]) := atI_nat (by simp [hk])
    by_cases ho : cs[a] % 2 = 1
    · exact fin (x := none) (y := some (.int cs[a])) (a' := a + 1) (r' := (if cs[a] < 0 then -cs[a] else cs[a]) / 2) (l' := 6) (o' := true) (by simp [hib, hk, a1, ho, bigN])
    · exact fin (x := none) (y := some (.int cs[a])) (a' := a + 1) (r' := (if cs[a] < 0 then -cs[a] else cs[a]) / 2) (l' := 60) (o' := false) (by simp [hib, hk, a1, ho, bigN])
  · refine fin (x := none) (y := none) (a' := a) (r' := r) (l' := l) (o' := o) ?_
    by_cases e : l = 0
    · have : ¬ a < cs.length := fun h => g ⟨e, by omega⟩
      simp [hib, e, this]
    · simp [hib, e]
end K10

namespace K10
open PySem L2 Z K06 K07
open PySem.Spec PyProof.Rows
variable [Tabs]
/-! ### walks of a comprehension that change the store -/
section
variable {g : GM} {ft : EM Bool} {fe : EM D} {env : En} {s : Src}
theorem lcA_seq {xs : List D} {N : Nat} {T : Nat → Sto} {v : Nat → D} (h : ∀ j, j < N → ∃ env1, g (dN j) env = some env1 ∧ ft env1 (T j) = .ok true (T j) ∧ fe env1 (T j) = .ok (v j) (T (j + 1))) :
    ∀ (k i : Nat) (acc : List D), i + k = N → acc.length + k ≤ bigN → lcA ⟨xs, none⟩ g ft fe env ((List.range' i k).map dN) acc (T i) = .ok (acc ++ (List.range' i k).map v) (T N)
  | 0, i, acc, e, _ => by
    have : i = N := by omega
    subst this
    rw [List.range'_zero, List.map_nil, lcA, List.map_nil, List.append_nil]
    rfl
  | k + 1, i, acc, e, hb => by
    obtain ⟨env1, h1, h2, h3⟩ := h i (by omega)
    rw [List.range'_succ, List.map_cons, lcA, if_pos (show Src.okAt ⟨xs, none⟩ (T i) = true from rfl), h1]
    simp only [h2, Rs.nox_ok, Rs.bnd_ok, if_true, h3, show acc.length < bigN by omega]
    rw [lcA_seq h k (i + 1) (acc ++ [v i]) (by omega) (by simp; omega)]
    simp
/-- items of any kind, the store as P says -/
theorem lcA_any {xs : List D} {α : Type} {mk : α → D} {P : Sto → Prop} {V : α → D → Prop} : ∀ (L : List α) (acc : List D) (T : Sto), P T → acc.length + L.length ≤ bigN →
    (∀ a ∈ L, ∀ T, P T → ∃ env1 d T', g (mk a) env = some env1 ∧ ft env1 T = .ok true T ∧ fe env1 T = .ok d T' ∧ V a d ∧ P T') →
    ∃ ds T', lcA ⟨xs, none⟩ g ft fe env (L.map mk) acc T = .ok (acc ++ ds) T' ∧ P T' ∧ ds.length = L.length ∧ ∀ (i : Nat) (a : α), L[i]? = some a → ∃ d, ds[i]? = some d ∧ V a d
  | [], acc, T, hP, _, _ => ⟨[], T, by rw [List.map_nil, lcA, List.append_nil]; rfl, hP, rfl, fun i a h => by simp at h⟩
  | a :: L, acc, T, hP, hb, h => by
    obtain ⟨env1, d, T1, h1, h2, h3, h4, h5⟩ := h a List.mem_cons_self T hP
    have hl : acc.length + L.length + 1 ≤ bigN := by simp at hb; omega
    obtain ⟨ds, T', e1, e2, e3, e4⟩ := lcA_any (xs := xs) L (acc ++ [d]) T1 h5 (by simp; omega) fun b hb => h b (List.mem_cons_of_mem _ hb)
    refine ⟨d :: ds, T', ?_, e2, by simp [e3], fun i b hi => ?_⟩
    · rw [List.map_cons, lcA, if_pos (show Src.okAt ⟨xs, none⟩ T = true from rfl), h1]
      simp only [h2, Rs.nox_ok, Rs.bnd_ok, if_true, h3, show acc.length < bigN by omega, e1]
      simp
    · cases i with
      | zero => cases hi; exact ⟨d, rfl, h4⟩
      | succ i => exact e4 i b hi
end
/-! ### names -/
theorem names_loop {ib : Nat} (n0 : Option D) (xs : List D) : ∀ (items : List D) (lf : List Nat) (acc : List D) (S : Sto), PoolAt ib S → items.length = lf.length → acc.length + lf.length ≤ 64 →
    ∃ (l : List Nat) (S' : Sto), l.Perm lf ∧ Eff ib S S' ∧ lcA ⟨xs, none⟩ (zgName 3) zYes (zMethL dPopAt (zVar 2) (zCons (zCallF 2 F__law_take (zCons (zVar 0) (zCons (zCall dLen (zCons (zVar 2) zNil)) zNil))) zNil)) [some (.ptr ib), n0, some (.ptr S.length), none] items acc (S ++ [.lst (lf.map dN)]) = .ok (acc ++ l.map dN) (S' ++ [.lst []])
  | [], lf, acc, S, hP, hl, _ => by
    have : lf = [] := List.length_eq_zero_iff.mp hl.symm
    subst this
    exact ⟨[], S, .refl _, Eff.rfl' hP, by simp [lcA]⟩
  | it :: items, lf, acc, S, hP, hl, hb => by
    have hpos : 0 < lf.length := by rw [← hl]; simp
    obtain ⟨j, S1', h1, h2, h3⟩ := eval_take (hP.app [.lst (lf.map dN)]) (many := (lf.length : Int)) (by omega) (by omega)
    obtain ⟨S1, rfl, h4⟩ := h2.split hP.lt
    have hj : j < lf.length := by omega
    obtain ⟨l, S', h5, h6, h7⟩ := names_loop n0 xs items (lf.eraseIdx j) (acc ++ [dN lf[j]]) S1 h4.at_ (by rw [List.length_eraseIdx_of_lt hj]; simp at hl; omega) (by rw [List.length_eraseIdx_of_lt hj]; simp; omega)
    refine ⟨lf[j] :: l, S', ((h5.cons _).trans (perm_erase hj)), h4.trans h6, ?_⟩
    have a1 := ixNn hj
    have hacc : acc.length < bigN := by unfold bigN; omega
    rw [h4.len] at h7
    rw [lcA]
    rw [List.append_assoc] at h7
    have e1 : (S1 ++ [C.lst (lf.map dN)])[S.length]? = some (.lst (lf.map dN)) := by rw [← h4.len, List.getElem?_append_right (Nat.le_refl _)]; simp
    have e2 : ∀ c : C, (S1 ++ [C.lst (lf.map dN)]).set S.length c = S1 ++ [c] := fun c => by rw [← h4.len, List.set_append_right _ _ (Nat.le_refl _)]; simp
    simp [zYes, h1, e1, e2, a1, hj, show (j : Int) ≤ 1000000 by omega, show -1000000 ≤ (j : Int) by omega, hacc]
    rw [erase_map]
    exact h7
theorem eval_names {S : Sto} {ib : Nat} (hP : PoolAt ib S) {n : Nat} (hn : n ≤ 64) :
    ∃ (l : List Nat) (S' : Sto), l.Perm (List.range n) ∧ Eff ib S S' ∧ F__law_names [.ptr ib, dN n] S = .ok (.lst (l.map dN)) S' := by
  obtain ⟨d, S1, h1, h2, h3⟩ := eval_take hP (many := 4) (by decide) (by decide)
  by_cases hd : (d : Int) = 0
  · refine ⟨List.range n, S1, .refl _, h2, Fof_eff0 ?_ h2 (cl_D_N _ _)⟩
    refine seq_r (if_t (b_n (op_n (d := .int d) (d1 := .int 0) (callF2 rfl rfl h1) rfl (R := .ok (.bl true) S1) (by simp [hd]))) (ret_n (rgA_n (k := .lst) (n := n) (S1 := S1) rfl (by omega))))
  · obtain ⟨l, S', h4, h5, h6⟩ := names_loop (some (dN n)) ((List.range n).map dN) ((List.range n).map dN) (List.range n) [] S1 h2.at_ (by simp) (by simpa using hn)
    refine ⟨l, S', h4, h2.trans h5, Fof_effL (L := [.lst []]) ?_ (h2.trans h5) (cl_D_N _ _)⟩
    refine seq_n (if_f (b_n (op_n (d := .int d) (d1 := .int 0) (callF2 rfl rfl h1) rfl (R := .ok (.bl false) S1) (by simp; omega))) rfl) ?_
    refine seq_n (env' := [some (.ptr ib), some (dN n), some (.ptr S1.length), none]) (S' := S1 ++ [.lst ((List.range n).map dN)]) (set_n (rgA_n (k := .cel) (n := n) (S1 := S1) rfl (by omega))) ?_
    refine ret_n ?_
    rw [zLcK, rng1 (n := n) (by omega) rfl, Rs.bnd_ok]
    show ((lcA _ _ _ _ [some (.ptr ib), some (dN n), some (.ptr S1.length), none] _ _ _).bnd _) = _
    rw [h6]
    rfl
end K10

namespace K10
open PySem L2 Z K06 K07
open PySem.Spec PyProof.Rows
variable [Tabs]
/-! ### a matrix of rowI, however it lies -/
theorem dIx_seq {d r : D} {S : Sto} {xs : List D} {i : Nat} (h : seqOf d S = some xs) (hx : xs[i]? = some r) : dIx d (.int i) S = .ok r S := by
  have e : anyOf d S = some xs := by
    cases d <;> first | exact h | cases h
  unfold dIx
  simp only [e, atI_nat hx]
theorem seqOf_app {d : D} {S L : Sto} {xs : List D} (h : seqOf d S = some xs) : seqOf d (S ++ L) = some xs := by
  cases d with
  | ptr n =>
    unfold seqOf at h ⊢
    cases e : S[n]? with
    | none => simp [e] at h
    | some c =>
      rw [List.getElem?_append_left (List.getElem?_eq_some_iff.mp e).1]
      simp only [e] at h ⊢
      exact h
  | _ => exact h
theorem seqOf_eff {d : D} {S S' : Sto} {ib : Nat} {xs : List D} (hP : PoolAt ib S) (e : Eff ib S S') (h : seqOf d S = some xs) : seqOf d S' = some xs := by
  cases d with
  | ptr n =>
    unfold seqOf at h ⊢
    by_cases q : n = ib
    · subst q
      obtain ⟨c, h1, _, _, _, _, _, _, _, rfl⟩ := hP
      rw [h1] at h
      simp [poolC] at h
    · rw [e.same n q]; exact h
  | _ => exact h
def Mat (n : Nat) (e : Nat → Nat → Int) (d : D) (S : Sto) : Prop := ∃ xs, seqOf d S = some xs ∧ ∀ i, i < n → ∃ r ys, xs[i]? = some r ∧ seqOf r S = some ys ∧ ∀ j, j < n → ys[j]? = some (.int (e i j))
section
variable {n : Nat} {e : Nat → Nat → Int} {d : D} {S S' L : Sto}
theorem Mat.app (h : Mat n e d S) (L : Sto) : Mat n e d (S ++ L) := by
  obtain ⟨xs, h1, h2⟩ := h
  refine ⟨xs, seqOf_app h1, fun i hi => ?_⟩
  obtain ⟨r, ys, h3, h4, h5⟩ := h2 i hi
  exact ⟨r, ys, h3, seqOf_app h4, h5⟩
theorem Mat.eff {ib : Nat} (hP : PoolAt ib S) (x : Eff ib S S') (h : Mat n e d S) : Mat n e d S' := by
  obtain ⟨xs, h1, h2⟩ := h
  refine ⟨xs, seqOf_eff hP x h1, fun i hi => ?_⟩
  obtain ⟨r, ys, h3, h4, h5⟩ := h2 i hi
  exact ⟨r, ys, h3, seqOf_eff hP x h4, h5⟩
theorem Mat.get (h : Mat n e d S) {i j : Nat} (hi : i < n) (hj : j < n) : ∃ r, dIx d (.int i) S = .ok r S ∧ dIx r (.int j) S = .ok (.int (e i j)) S := by
  obtain ⟨xs, h1, h2⟩ := h
  obtain ⟨r, ys, h3, h4, h5⟩ := h2 i hi
  exact ⟨r, dIx_seq h1 h3, dIx_seq h4 (h5 j hj)⟩
end
/-- the frozen matrix -/
def rowI (n : Nat) (w : Nat → Nat → Int) (x : Nat) : List D := (List.range n).map fun y => D.int (w x y)
def imat (n : Nat) (w : Nat → Nat → Int) : D := .lst ((List.range n).map fun x => .lst (rowI n w x))
theorem imat_mat (n : Nat) (w : Nat → Nat → Int) (S : Sto) : Mat n w (imat n w) S :=
  ⟨_, rfl, fun i hi => ⟨.lst (rowI n w i), rowI n w i, by simp [hi], rfl, fun j hj => by simp [rowI, hj]⟩⟩
/-! ### under construction -/
structure Tb (S0 : Sto) (n : Nat) (w : Nat → Nat → Int) (T : Sto) : Prop where
  pre : ∃ L, T = S0 ++ L
  out : T[S0.length + n]? = some (.lst ((List.range n).map fun x => .ptr (S0.length + x)))
  row : ∀ x, x < n → T[S0.length + x]? = some (.lst (rowI n w x))
section
variable {S0 T : Sto} {n : Nat} {w : Nat → Nat → Int}
theorem Tb.set (h : Tb S0 n w T) {x y : Nat} (hx : x < n) (hy : y < n) (v : Int) : Tb S0 n (fun i j => if i = x ∧ j = y then v else w i j) (T.set (S0.length + x) (.lst ((rowI n w x).set y (.int v)))) := by
  obtain ⟨L, rfl⟩ := h.pre
  refine ⟨pre_set _ (by omega), ?_, fun i hi => ?_⟩
  · rw [List.getElem?_set_ne (by omega)]; exact h.out
  · by_cases e : i = x
    · subst e
      rw [List.getElem?_set_self (List.getElem?_eq_some_iff.mp (h.row i hi)).1]
      unfold rowI
      rw [set_fun]
      congr 2
      refine List.map_congr_left fun z _ => ?_
      by_cases q : z = y <;> simp [q]
    · rw [List.getElem?_set_ne (by omega), h.row i hi]
      unfold rowI
      congr 2
      refine List.map_congr_left fun z _ => ?_
      simp [e]
theorem Tb.mat (h : Tb S0 n w T) : Mat n w (.ptr (S0.length + n)) T :=
  ⟨_, by unfold seqOf; rw [h.out], fun i hi => ⟨.ptr (S0.length + i), rowI n w i, by simp [hi], by unfold seqOf; rw [h.row i hi], fun j hj => by simp [rowI, hj]⟩⟩
theorem Tb.frz (h : Tb S0 n w T) : ∃ L', Z.frz 2 (.ptr (S0.length + n)) T = some (imat n w, S0 ++ L') := by
  obtain ⟨L, rfl⟩ := h.pre
  obtain ⟨L', e1, e2⟩ := frz_rows (S0 := S0) (b := rowI n w) (row := fun x => S0.length + x) (o := S0.length + n) (List.range n) L List.nodup_range (fun y hy => h.row y (List.mem_range.mp hy)) (fun y hy => by
    have := List.mem_range.mp hy
    omega) fun y hy z hz e => by omega
  rw [h.out] at e2
  obtain ⟨L2, e3⟩ := pre_set (S0 := S0) (L := L') (q := S0.length + n) .gone (by omega)
  refine ⟨L2, ?_⟩
  rw [Z.frz, h.out]
  simp only [e1]
  rw [e2]
  simp only []
  rw [e3]
  rfl
end
/-! ### the space -/
abbrev SK : List Key := [.inr "order", .inr "under", .inr "names"]
def ofW (w : Nat → Nat → Int) (x y : Nat) : Bool := decide (w x y = 1)
def spD (n : Nat) (w : Nat → Nat → Int) (nm : List Nat) : D := .dct SK [ordD n (canon n (ofW w)), imat n w, .lst (nm.map dN)]
theorem cl_imat {k n : Nat} {w : Nat → Nat → Int} : D.cl k (imat n w) := cls_map (fun x => show D.cl k (.lst (rowI n w x)) from cls_map (fun y => show D.cl k (.int (w x y)) from trivial) _) _
theorem cl_sp {k n : Nat} {w : Nat → Nat → Int} {nm : List Nat} : D.cl k (spD n w nm) := ⟨cl_ordD _ _ _, cl_imat, cl_D_N _ _, trivial⟩
theorem dmulC_n {n : Nat} (hn : n ≤ 4096) (T : Sto) : dMulC (.lst [.int 0]) (dN n) T = .ok (.ptr T.length) (T ++ [.lst ((List.range n).map fun _ => D.int 0)]) := by
  have h1 : ∀ n : Nat, (List.replicate n [D.int 0]).flatten = (List.range n).map fun _ => D.int 0 := fun n => by
    rw [List.map_const', List.length_range]
    induction n with
    | zero => rfl
    | succ n ih => rw [List.replicate_succ, List.flatten_cons, ih, List.replicate_succ]; rfl
  have e : dMulC (.lst [.int 0]) (dN n) T = .ok (.ptr T.length) (T ++ [.lst (List.replicate n [D.int 0]).flatten]) := by
    show (if _ then _ else _) = _
    rw [if_pos ⟨by omega, by omega, by show 1 * ((n : Int)).toNat ≤ bigN; unfold bigN; omega⟩]
    rfl
  rw [e, h1]
section
variable {env : En} {S S1 S2 S3 S4 : Sto} {a b c : EM D} {d d1 d2 : D} {f : EM (List D)} {ds : List D} {ks : List Key}
theorem putL_n (h : c env S = .ok d S1) (h1 : a env S1 = .ok d1 S2) (h2 : b env S2 = .ok d2 S3) (h3 : stSet d1 d2 d S3 = some S4) : zPut a b c env S = .mk (.next env) S4 := by
  rw [zPut, h]
  simp only [Rs.st]
  rw [h1]
  simp only [Rs.st]
  rw [h2]
  simp only [Rs.st, h3]
theorem zd_n (h : a env S = .ok d S1) (h2 : f env S1 = .ok ds S2) : zdCons a f env S = .ok (d :: ds) S2 := by simp [zdCons, h, h2]
theorem dict_n (h : f env S = .ok ds S1) (hl : ds.length = ks.length) : zDict .frz ks f env S = .ok (.dct ks ds) S1 := by simp [zDict, h, hl, Mk.resD]
end
def rows0 (S : Sto) (n : Nat) : Sto := S ++ (List.range n).map (fun _ => C.lst ((List.range n).map fun _ => D.int 0)) ++ [.lst ((List.range n).map fun x => .ptr (S.length + x))]
theorem rows_mk {S : Sto} {n : Nat} (hn : n ≤ 64) {vs : List Nat} {g : GM} {env : En} {fi : EI} {a : EM D} (hi : fi env S = .ok ⟨(List.range n).map dN, none⟩ S) (hg : ∀ j, ∃ env1, g (dN j) (wipeE env vs) = some env1 ∧ ∀ T, a env1 T = .ok (dN n) T) :
    zLcK .cel vs fi g zYes (zOp dMulC (zLst (zCons (zC (.int 0)) zNil)) a) env S = .ok (.ptr (S.length + n)) (rows0 S n) := by
  rw [zLcK, hi, Rs.bnd_ok]
  have q := lcA_seq (xs := (List.range n).map dN) (N := n) (g := g) (ft := zYes) (fe := zOp dMulC (zLst (zCons (zC (.int 0)) zNil)) a) (env := wipeE env vs)
    (T := fun i => S ++ (List.range i).map (fun _ => C.lst ((List.range n).map fun _ => D.int 0))) (v := fun i => .ptr (S.length + i)) (fun j hj => by
      obtain ⟨env1, h1, h2⟩ := hg j
      refine ⟨env1, h1, rfl, op_n (d := .lst [.int 0]) (d1 := dN n) rfl (h2 _) ((dmulC_n (by omega) _).trans ?_)⟩
      rw [List.length_append, List.length_map, List.length_range, List.append_assoc, List.range_succ, List.map_append]
      rfl) n 0 [] (by omega) (by simp [bigN]; omega)
  rw [← List.range_eq_range'] at q
  show ((lcA ⟨(List.range n).map dN, none⟩ _ _ _ _ ((List.range n).map dN) [] S).bnd Mk.cel.res) = _
  have e0 : S ++ (List.range 0).map (fun _ => C.lst ((List.range n).map fun _ => D.int 0)) = S := by simp
  simp only [e0] at q
  rw [q, Rs.bnd_ok]
  simp [Mk.res, rows0]
theorem Tb.new (S : Sto) (n : Nat) : Tb S n (fun _ _ => 0) (rows0 S n) := by
  refine ⟨⟨_, List.append_assoc _ _ _⟩, ?_, fun x hx => ?_⟩
  · unfold rows0
    rw [List.getElem?_append_right (by simp)]
    simp
  · unfold rows0
    rw [List.getElem?_append_left (by simp; omega), List.getElem?_append_right (by omega)]
    simp [hx, rowI]
noncomputable def spIn : SM := (zPut (zVar 7) (zOp dIx (zVar 0) (zVar 8)) (zOp dIx (zOp dIx (zVar 1) (zVar 4)) (zVar 8)))
noncomputable def spOut : SM := (zSeq (zSet 7 (zOp dIx (zVar 3) (zOp dIx (zVar 0) (zVar 4)))) (zFor (zRange1 (zCons (zVar 2) zNil)) (zgName 8) spIn))
noncomputable def spPr : SM := (zSet 5 (zOp dAdd (zVar 5) (zLcK .frz [10] (zRange1 (zCons (zVar 2) zNil)) (zgName 10) (zB (zOp dEq (zOp dIx (zOp dIx (zVar 3) (zVar 6)) (zVar 10)) (zC (.int 1)))) (zTup (zCons (zVar 6) (zCons (zVar 10) zNil))))))
theorem run_space_eq : run__law_space = (zSeq (zSet 2 (zCall dLen (zCons (zVar 0) zNil)))
    (zSeq (zSet 3 (zLcK .cel [9] (zRange1 (zCons (zVar 2) zNil)) (zgName 9) zYes (zOp dMulC (zLst (zCons (zC (.int 0)) zNil)) (zVar 2))))
    (zSeq (zFor (zRange1 (zCons (zVar 2) zNil)) (zgName 4) spOut)
    (zSeq (zSet 5 (zLst zNil))
    (zSeq (zFor (zRange1 (zCons (zVar 2) zNil)) (zgName 6) spPr)
    (zRet (zDict .frz [.inr "order", .inr "under", .inr "names"] (zdCons (zTup (zCons (zVar 2) (zCons (zCall dTuple (zCons (zVar 5) zNil)) zNil))) (zdCons (zVar 3) (zdCons (zVar 0) zNil)))))))))) := rfl
section
variable {n : Nat} {nm : List Nat} {u : D} {S : Sto}
def sE (nm : List Nat) (u : D) (n o : Nat) (i p x r j : Option D) : En := [some (.lst (nm.map dN)), some u, some (dN n), some (.ptr o), i, p, x, r, j, none, none]
theorem nm_at {nm : List Nat} {i : Nat} (h : i < nm.length) (T : Sto) : dIx (.lst (nm.map dN)) (dN i) T = .ok (dN nm[i]) T := dIx_seq (i := i) rfl (by simp [h])
theorem eval_space (hn : n ≤ 64) (hl : nm.length = n) (hr : ∀ x ∈ nm, x < n) {e : Nat → Nat → Int} (hm : Mat n e u S) : ∃ w, F__law_space [.lst (nm.map dN), u] S = .ok (spD n w nm) S := by
  have mk := rows_mk (S := S) (vs := [9]) (g := zgName 9) (env := [some (.lst (nm.map dN)), some u, some (dN n), none, none, none, none, none, none, none, none]) (fi := zRange1 (zCons (zVar 2) zNil)) (a := zVar 2) hn (rng1 (n := n) (by omega) rfl) (fun j => ⟨_, rfl, fun T => rfl⟩)
  have tb0 := Tb.new S n
  -- the entries
  have inner : ∀ (i : Nat) (w : Nat → Nat → Int) (T : Sto) (j0 : Option D), i < n → Tb S n w T → ∃ env' T', (∃ j w, env' = sE nm u n (S.length + n) (some (dN i)) none none (some (.ptr (S.length + nm[i]!))) j ∧ Tb S n w T') ∧ zFor (zRange1 (zCons (zVar 2) zNil)) (zgName 8) spIn (sE nm u n (S.length + n) (some (dN i)) none none (some (.ptr (S.length + nm[i]!))) j0) T = .mk (.next env') T' := by
    intro i w T j0 hi h
    refine for_n (N := n) (P := fun _ env T => ∃ j w, env = sE nm u n (S.length + n) (some (dN i)) none none (some (.ptr (S.length + nm[i]!))) j ∧ Tb S n w T) (rng1 (n := n) (by omega) rfl) ⟨j0, w, rfl, h⟩ ?_
    rintro j env T hj ⟨j1, w, rfl, h⟩
    have him : nm[i]! = nm[i]'(by omega) := getElem!_pos nm i (by omega)
    have hx : nm[i]! < n := by rw [him]; exact hr _ (List.getElem_mem _)
    have hjl : j < nm.length := by omega
    have hy : nm[j] < n := hr _ (List.getElem_mem _)
    obtain ⟨L, hL⟩ := h.pre
    obtain ⟨r, g1, g2⟩ := (hm.app L).get hi hj
    rw [← hL] at g1 g2
    refine ⟨sE nm u n (S.length + n) (some (dN i)) none none (some (.ptr (S.length + nm[i]!))) (some (dN j)), _, _, rfl, ?_, ⟨some (dN j), _, rfl, h.set hx hy (e i j)⟩⟩
    have q1 : zOp dIx (zOp dIx (zVar 1) (zVar 4)) (zVar 8) (sE nm u n (S.length + n) (some (dN i)) none none (some (.ptr (S.length + nm[i]!))) (some (dN j))) T = .ok (.int (e i j)) T := op_n (op_n rfl rfl g1) rfl g2
    have q2 : zOp dIx (zVar 0) (zVar 8) (sE nm u n (S.length + n) (some (dN i)) none none (some (.ptr (S.length + nm[i]!))) (some (dN j))) T = .ok (dN nm[j]) T := op_n rfl rfl (nm_at hjl T)
    have q3 : zVar 7 (sE nm u n (S.length + n) (some (dN i)) none none (some (.ptr (S.length + nm[i]!))) (some (dN j))) T = .ok (.ptr (S.length + nm[i]!)) T := rfl
    have q4 : stSet (.ptr (S.length + nm[i]!)) (dN nm[j]) (.int (e i j)) T = some (T.set (S.length + nm[i]!) (.lst ((rowI n w nm[i]!).set nm[j] (.int (e i j))))) := by
      unfold stSet
      simp only [dN, h.row _ hx]
      have : (rowI n w nm[i]!).length = n := by simp [rowI]
      rw [this, ixNn hy]
    exact putL_n q1 q3 q2 q4
  have outer : ∀ (T : Sto), Tb S n (fun _ _ => 0) T → ∃ env' T', (∃ i r j w, env' = sE nm u n (S.length + n) i none none r j ∧ Tb S n w T') ∧ zFor (zRange1 (zCons (zVar 2) zNil)) (zgName 4) spOut (sE nm u n (S.length + n) none none none none none) T = .mk (.next env') T' := by
    intro T h
    refine for_n (N := n) (P := fun _ env T => ∃ i r j w, env = sE nm u n (S.length + n) i none none r j ∧ Tb S n w T) (rng1 (n := n) (by omega) rfl) ⟨none, none, none, _, rfl, h⟩ ?_
    rintro i env T hi ⟨i0, r0, j0, w, rfl, h⟩
    have him : nm[i]! = nm[i]'(by omega) := getElem!_pos nm i (by omega)
    have hx : nm[i]! < n := by rw [him]; exact hr _ (List.getElem_mem _)
    obtain ⟨env', T', ⟨j, w', rfl, h'⟩, q⟩ := inner i w T j0 hi h
    refine ⟨sE nm u n (S.length + n) (some (dN i)) none none r0 j0, sE nm u n (S.length + n) (some (dN i)) none none (some (.ptr (S.length + nm[i]!))) j, T', rfl, ?_, ⟨_, _, _, w', rfl, h'⟩⟩
    refine seq_n (env' := sE nm u n (S.length + n) (some (dN i)) none none (some (.ptr (S.length + nm[i]!))) j0) (S' := T) (set_n (op_n (S1 := T) (S2 := T) (d := .ptr (S.length + n)) (d1 := dN nm[i]!) rfl (op_n (S1 := T) (S2 := T) (d := .lst (nm.map dN)) (d1 := dN i) rfl rfl ((nm_at (by omega) T).trans (by rw [him]))) (dIx_seq (i := nm[i]!) (by unfold seqOf; rw [h.out]) (by rw [List.getElem?_map, List.getElem?_range hx]; rfl)))) q
  obtain ⟨env1, T, ⟨i1, r1, j1, w, rfl, h⟩, q1⟩ := outer _ tb0
  have prs : ∃ env' T', (∃ x, env' = ((sE nm u n (S.length + n) i1 (some (.lst ((pre n (ofW w) n).map pD))) x r1 j1)) ∧ T' = T) ∧ zFor (zRange1 (zCons (zVar 2) zNil)) (zgName 6) spPr (sE nm u n (S.length + n) i1 (some (.lst ((pre n (ofW w) 0).map pD))) none r1 j1) T = .mk (.next env') T' := by
    refine for_n (N := n) (P := fun k env T' => ∃ x, env = sE nm u n (S.length + n) i1 (some (.lst ((pre n (ofW w) k).map pD))) x r1 j1 ∧ T' = T) (rng1 (n := n) (by omega) rfl) ⟨none, rfl, rfl⟩ ?_
    rintro k env T' hk ⟨x0, rfl, rfl⟩
    refine ⟨sE nm u n (S.length + n) i1 (some (.lst ((pre n (ofW w) k).map pD))) (some (dN k)) r1 j1, _, T', rfl, ?_, ⟨some (dN k), rfl, rfl⟩⟩
    have l := lcK_pure (L := List.range n) (mk := dN) (v := fun y => pD (k, y)) (p := fun y => ofW w k y) (vs := [10]) (g := zgName 10) (ft := zB (zOp dEq (zOp dIx (zOp dIx (zVar 3) (zVar 6)) (zVar 10)) (zC (.int 1)))) (fe := zTup (zCons (zVar 6) (zCons (zVar 10) zNil))) (fi := zRange1 (zCons (zVar 2) zNil)) (env := sE nm u n (S.length + n) i1 (some (.lst ((pre n (ofW w) k).map pD))) (some (dN k)) r1 j1) (S := T') (S1 := T') (rng1 (n := n) (by omega) rfl) (by simp [bigN]; omega) fun y hy => by
      obtain ⟨r, g1, g2⟩ := h.mat.get hk (List.mem_range.mp hy)
      exact ⟨[some (.lst (nm.map dN)), some u, some (dN n), some (.ptr (S.length + n)), i1, some (.lst ((pre n (ofW w) k).map pD)), some (dN k), r1, j1, none, some (dN y)], rfl, b_n (op_n (op_n (op_n rfl rfl g1) rfl g2) rfl rfl), fun _ => tup2_n rfl rfl⟩
    have b1 := pre_len n (ofW w) k
    have b2 : k * n ≤ 64 * 64 := Nat.mul_le_mul (by omega) hn
    have b3 := List.length_filter_le (fun y => ofW w k y) (List.range n)
    rw [List.length_range] at b3
    have last : (pre n (ofW w) k).map pD ++ ((List.range n).filter fun y => ofW w k y).map (fun y => pD (k, y)) = (pre n (ofW w) (k + 1)).map pD := by
      rw [pre_succ, List.map_append, List.map_map]
      rfl
    have := op_n (o := dAdd) (a := zVar 5) (d := .lst ((pre n (ofW w) k).map pD)) (env := sE nm u n (S.length + n) i1 (some (.lst ((pre n (ofW w) k).map pD))) (some (dN k)) r1 j1) (S := T') (S1 := T') rfl l (lists_add (by simp only [List.length_map]; unfold bigN; omega) T')
    rw [last] at this
    exact set_n this
  obtain ⟨env2, T2, ⟨x2, rfl, rfl⟩, q2⟩ := prs
  obtain ⟨L, hL⟩ := h.pre
  obtain ⟨L', hf⟩ := h.frz
  refine ⟨w, Fof_pure (L := L) (L' := L') (d := .dct SK [ordD n (canon n (ofW w)), .ptr (S.length + n), .lst (nm.map dN)]) ?_ ?_ cl_sp⟩
  · rw [run_space_eq, ← hL]
    refine seq_n (env' := [some (.lst (nm.map dN)), some u, some (dN n), none, none, none, none, none, none, none, none]) (S' := S) (set_n ((len_n rfl).trans (by rw [List.length_map, hl]))) ?_
    refine seq_n (env' := sE nm u n (S.length + n) none none none none none) (set_n mk) ?_
    refine seq_n q1 ?_
    refine seq_n (env' := sE nm u n (S.length + n) i1 (some (.lst [])) none r1 j1) (S' := T2) (set_n (lst_n nil_n (by simp [bigN]))) ?_
    refine seq_n q2 ?_
    exact ret_n (dict_n (zd_n (tup2_n rfl (tupOf_n rfl)) (zd_n rfl (zd_n rfl nil_n))) rfl)
  · rw [← hL]
    have e1 : frz 2 (ordD n (canon n (ofW w))) T2 = some (ordD n (canon n (ofW w)), T2) := by simp [ordD, dN, frz, frzs]
    have e2 : frzs 2 [ordD n (canon n (ofW w)), .ptr (S.length + n), .lst (nm.map dN)] T2 = some ([ordD n (canon n (ofW w)), imat n w, .lst (nm.map dN)], S ++ L') := by
      simp only [frzs, e1, hf]
      simp [frz]
    rw [frz, e2]
    rfl
end
end K10

namespace K10
open PySem L2 Z K06 K07
open PySem.Spec PyProof.Rows
variable [Tabs]
/-! ### drawn spaces -/
def SpOk (n : Nat) (d : D) : Prop := ∃ w nm, nm.length = n ∧ (∀ x ∈ nm, x < n) ∧ d = spD n w nm
theorem SpOk.cl {n k : Nat} {d : D} (h : SpOk n d) : D.cl k d := by
  obtain ⟨w, nm, _, _, rfl⟩ := h; exact cl_sp
theorem nm_ok {l : List Nat} {n : Nat} (h : l.Perm (List.range n)) : l.length = n ∧ ∀ x ∈ l, x < n :=
  ⟨by rw [h.length_eq, List.length_range], fun x hx => List.mem_range.mp (h.mem_iff.mp hx)⟩
theorem int_b (b : Bool) (S : Sto) : dInt [.bl b] S = .ok (.int (if b then 1 else 0)) S := by cases b <;> rfl
theorem div_N {a b : Nat} (h : 0 < b) (h2 : b < 1073741824) (S : Sto) : dDiv (dN a) (dN b) S = .ok (dN (a / b)) S := by
  rw [dN, dN, ev_div, if_pos ⟨by omega, by omega⟩]
  simp [dN]
theorem eval_floors {S : Sto} {ib : Nat} (hP : PoolAt ib S) {n wd : Nat} (hn : n ≤ 64) (h1 : 0 < wd) (h2 : wd < 1073741824) : ∃ d S', F__law_floors [.ptr ib, dN n, dN wd] S = .ok d S' ∧ Eff ib S S' ∧ SpOk n d := by
  obtain ⟨l, S', h3, h4, h5⟩ := eval_names hP hn
  obtain ⟨l1, l2⟩ := nm_ok h3
  obtain ⟨w, h6⟩ := eval_space hn l1 l2 (imat_mat n (fun i j => if decide (i / wd < j / wd) then 1 else 0) S')
  refine ⟨_, S', Fof_eff0 ?_ h4 cl_sp, h4, ⟨w, l, l1, l2, rfl⟩⟩
  have e := lcK_pure (L := List.range n) (mk := dN) (v := fun i => .lst (rowI n (fun i j => if decide (i / wd < j / wd) then 1 else 0) i)) (p := fun _ => true) (vs := [4]) (g := zgName 4) (ft := zYes) (fe := (zLcK .frz [5] (zRange1 (zCons (zVar 1) zNil)) (zgName 5) zYes (zCall dInt (zCons (zOp dLt (zOp dDiv (zVar 4) (zVar 2)) (zOp dDiv (zVar 5) (zVar 2))) zNil)))) (fi := zRange1 (zCons (zVar 1) zNil)) (env := [some (.ptr ib), some (dN n), some (dN wd), none, none, none]) (S := S) (S1 := S) (rng1 (n := n) (by omega) rfl) (by simp [bigN]; omega) fun i hi =>
    ⟨[some (.ptr ib), some (dN n), some (dN wd), none, some (dN i), none], rfl, rfl, fun _ => by
      have l := lcK_pure (L := List.range n) (mk := dN) (v := fun j => D.int (if decide (i / wd < j / wd) then 1 else 0)) (p := fun _ => true) (vs := [5]) (g := zgName 5) (ft := zYes) (fe := (zCall dInt (zCons (zOp dLt (zOp dDiv (zVar 4) (zVar 2)) (zOp dDiv (zVar 5) (zVar 2))) zNil))) (fi := zRange1 (zCons (zVar 1) zNil)) (env := [some (.ptr ib), some (dN n), some (dN wd), none, some (dN i), none]) (S := S) (S1 := S) (rng1 (n := n) (by omega) rfl) (by simp [bigN]; omega) fun j hj =>
        ⟨[some (.ptr ib), some (dN n), some (dN wd), none, some (dN i), some (dN j)], rfl, rfl, fun _ => call_n (one_n (op_n (op_n rfl rfl (div_N h1 h2 S)) (op_n rfl rfl (div_N h1 h2 S)) (lt_N _ _ _))) (int_b _ _)⟩
      rw [filter_tt] at l
      exact l⟩
  rw [filter_tt] at e
  exact seq_n (set_n e) (ret_n (callF2 h5 rfl h6))
/-- under construction, its rows cells or frozen -/
structure U2 (S0 : Sto) (n : Nat) (e : Nat → Nat → Int) (ds : List D) (T : Sto) : Prop where
  pre : ∃ L, T = S0 ++ L
  out : T[S0.length + n]? = some (.lst ds)
  len : ds.length = n
  row : ∀ i, i < n → ∃ r ys, ds[i]? = some r ∧ (∀ c, seqOf r (T.set (S0.length + n) c) = some ys) ∧ ∀ j, j < n → ys[j]? = some (.int (e i j))
section
variable {S0 T : Sto} {n : Nat} {e : Nat → Nat → Int} {ds : List D}
theorem Tb.u2 (h : Tb S0 n e T) : U2 S0 n e ((List.range n).map fun x => .ptr (S0.length + x)) T :=
  ⟨h.pre, h.out, by simp, fun i hi => ⟨.ptr (S0.length + i), rowI n e i, by simp [hi], fun c => by unfold seqOf; rw [List.getElem?_set_ne (by omega), h.row i hi], fun j hj => by simp [rowI, hj]⟩⟩
theorem U2.mat (h : U2 S0 n e ds T) : Mat n e (.ptr (S0.length + n)) T := by
  refine ⟨ds, by unfold seqOf; rw [h.out], fun i hi => ?_⟩
  obtain ⟨r, ys, h1, h2, h3⟩ := h.row i hi
  refine ⟨r, ys, h1, ?_, h3⟩
  have := h2 (.lst ds)
  rwa [set_same h.out] at this
theorem U2.set (h : U2 S0 n e ds T) {x : Nat} (hx : x < n) (f : Nat → Int) : U2 S0 n (fun i j => if i = x then f j else e i j) (ds.set x (.lst ((List.range n).map fun j => D.int (f j)))) (T.set (S0.length + n) (.lst (ds.set x (.lst ((List.range n).map fun j => D.int (f j)))))) := by
  obtain ⟨L, rfl⟩ := h.pre
  refine ⟨pre_set _ (by omega), ?_, by rw [List.length_set, h.len], fun i hi => ?_⟩
  · rw [List.getElem?_set_self (List.getElem?_eq_some_iff.mp h.out).1]
  · by_cases q : i = x
    · subst q
      exact ⟨_, _, by rw [List.getElem?_set_self (by rw [h.len]; exact hi)], fun c => rfl, fun j hj => by simp [hj]⟩
    · obtain ⟨r, ys, h1, h2, h3⟩ := h.row i hi
      exact ⟨r, ys, by rw [List.getElem?_set_ne (Ne.symm q)]; exact h1, fun c => by rw [List.set_set]; exact h2 c, fun j hj => by rw [if_neg q]; exact h3 j hj⟩
end
theorem Tb.eff {S0 S0' L : Sto} {n ib : Nat} {w : Nat → Nat → Int} (h : Tb S0 n w (S0 ++ L)) (x : Eff ib S0 S0') (hib : ib < S0.length) : Tb S0' n w (S0' ++ L) := by
  have q : ∀ k, S0.length ≤ k → (S0' ++ L)[k]? = (S0 ++ L)[k]? := fun k hk => by
    rw [List.getElem?_append_right hk, List.getElem?_append_right (by rw [x.len]; exact hk), x.len]
  refine ⟨⟨L, rfl⟩, ?_, fun i hi => ?_⟩
  · rw [x.len, q _ (by omega)]; exact h.out
  · rw [x.len, q _ (by omega)]; exact h.row i hi
noncomputable def drIn : SM := (zPut (zVar 6) (zVar 7) (zCall dInt (zCons (zOp dEq (zCallF 2 F__law_take (zCons (zVar 0) (zCons (zOp dIx (zLst (zCons (zC (.int 2)) (zCons (zC (.int 3)) (zCons (zC (.int 4)) (zCons (zC (.int 6)) zNil))))) (zOp dSub (zVar 2) (zC (.int 2)))) zNil))) (zC (.int 0))) zNil)))
noncomputable def drFill : SM := (zSeq (zSet 6 (zOp dIx (zVar 3) (zVar 4))) (zFor (zRange2 (zCons (zOp dAdd (zVar 4) (zC (.int 1))) (zCons (zVar 1) zNil))) (zgName 7) drIn))
noncomputable def drUp : SM := (zIfS (zB (zOp dEq (zOp dIx (zOp dIx (zVar 3) (zVar 4)) (zVar 5)) (zC (.int 1)))) (zPut (zVar 3) (zVar 4) (zLcK .frz [7] (zRange1 (zCons (zVar 1) zNil)) (zgName 7) zYes (zCall dInt (zCons (zOp dGt (zOp dAdd (zOp dIx (zOp dIx (zVar 3) (zVar 4)) (zVar 7)) (zOp dIx (zOp dIx (zVar 3) (zVar 5)) (zVar 7))) (zC (.int 0))) zNil)))) zNext)
theorem run_drawn_eq : run__law_drawn = (zSeq (zSet 2 (zCallF 2 F__law_take (zCons (zVar 0) (zCons (zC (.int 6)) zNil))))
    (zSeq (zIfS (zB (zOp dLt (zVar 2) (zC (.int 2)))) (zRet (zCallF 3 F__law_floors (zCons (zVar 0) (zCons (zVar 1) (zCons (zOp dAdd (zC (.int 1)) (zCallF 2 F__law_take (zCons (zVar 0) (zCons (zOp dAdd (zVar 1) (zC (.int 1))) zNil)))) zNil))))) zNext)
    (zSeq (zSet 3 (zLcK .cel [5] (zRange1 (zCons (zVar 1) zNil)) (zgName 5) zYes (zOp dMulC (zLst (zCons (zC (.int 0)) zNil)) (zVar 1))))
    (zSeq (zFor (zRange1 (zCons (zVar 1) zNil)) (zgName 4) drFill)
    (zSeq (zFor (zRange1 (zCons (zVar 1) zNil)) (zgName 5) (zFor (zRange1 (zCons (zVar 5) zNil)) (zgName 4) drUp))
    (zRet (zCallF 2 F__law_space (zCons (zCallF 2 F__law_names (zCons (zVar 0) (zCons (zVar 1) zNil))) (zCons (zVar 3) zNil))))))))) := rfl
def dE (ib n way o : Nat) (i k r j : Option D) : En := [some (.ptr ib), some (dN n), some (dN way), some (.ptr o), i, k, r, j]
theorem rng2 {a b : EM D} {env : En} {T : Sto} {x y : Nat} (hx : x ≤ 4096) (hy : y ≤ 4096) (h : a env T = .ok (dN x) T) (h2 : b env T = .ok (dN y) T) : zRange2 (zCons a (zCons b zNil)) env T = .ok ⟨(List.range' x (y - x)).map dN, none⟩ T := by
  rw [zRange2, cons_n h (one_n h2)]
  simp only [Rs.bnd_ok, dN]
  rw [if_pos ⟨⟨by omega, by omega⟩, ⟨by omega, by omega⟩⟩, rangeD_nn]
theorem eq_1 (a : Int) (S : Sto) : dEq (.int a) (.int 1) S = .ok (.bl (decide (a = 1))) S := rfl
section
variable {ib n way : Nat} {S1 : Sto}
theorem dr_in {o : Nat} {i j : Nat} {k : Option D} {S0 L T : Sto} {w : Nat → Nat → Int} (hw : 2 ≤ way ∧ way < 6) (hP : PoolAt ib S0) (ho : o = S0.length + n) (h : Tb S0 n w T) (hT : T = S0 ++ L) (hi : i < n) (hj : j < n) :
    ∃ S0' L' w', drIn (dE ib n way o (some (dN i)) k (some (.ptr (S0.length + i))) (some (dN j))) T = .mk (.next (dE ib n way o (some (dN i)) k (some (.ptr (S0.length + i))) (some (dN j)))) (S0' ++ L') ∧ Eff ib S0 S0' ∧ Tb S0' n w' (S0' ++ L') := by
  subst hT
  obtain ⟨v, hv1, hv2, hv3⟩ : ∃ v : Int, 0 < v ∧ v < 1073741824 ∧ zOp dIx (zLst (zCons (zC (.int 2)) (zCons (zC (.int 3)) (zCons (zC (.int 4)) (zCons (zC (.int 6)) zNil))))) (zOp dSub (zVar 2) (zC (.int 2))) (dE ib n way o (some (dN i)) k (some (.ptr (S0.length + i))) (some (dN j))) (S0 ++ L) = .ok (.int v) (S0 ++ L) := by
    have hc : way = 2 ∨ way = 3 ∨ way = 4 ∨ way = 5 := by omega
    rcases hc with rfl | rfl | rfl | rfl
    · exact ⟨2, by decide, by decide, rfl⟩
    · exact ⟨3, by decide, by decide, rfl⟩
    · exact ⟨4, by decide, by decide, rfl⟩
    · exact ⟨6, by decide, by decide, rfl⟩
  obtain ⟨d, T1, h1, h2, h3⟩ := eval_take (hP.app L) hv1 hv2
  obtain ⟨S0', rfl, h4⟩ := h2.split hP.lt
  have h5 := h.eff h4 hP.lt
  have h6 := h5.set hi hj (if decide ((d : Int) = 0) then 1 else 0)
  obtain ⟨L', e⟩ := pre_set (S0 := S0') (L := L) (q := S0'.length + i) (.lst ((rowI n w i).set j (.int (if decide ((d : Int) = 0) then 1 else 0)))) (by omega)
  refine ⟨S0', L', _, ?_, h4, by rw [← e]; exact h6⟩
  unfold drIn
  refine putL_n (S1 := S0' ++ L) (S2 := S0' ++ L) (S3 := S0' ++ L) (call_n (one_n (op_n (callF2 rfl hv3 h1) rfl (R := .ok (.bl (decide ((d : Int) = 0))) (S0' ++ L)) rfl)) (int_b _ _)) rfl rfl ?_
  rw [← e]
  unfold stSet
  have hl : (rowI n w i).length = n := by simp [rowI]
  rw [← h4.len]
  simp only [dN, h5.row i hi, hl, ixNn hj]
theorem dr_fill (hn : n ≤ 64) (hw : 2 ≤ way ∧ way < 6) (hP : PoolAt ib S1) : ∃ env' T', (∃ i r j S0 L w, env' = dE ib n way (S1.length + n) i none r j ∧ T' = S0 ++ L ∧ Eff ib S1 S0 ∧ Tb S0 n w T') ∧ zFor (zRange1 (zCons (zVar 1) zNil)) (zgName 4) drFill (dE ib n way (S1.length + n) none none none none) (rows0 S1 n) = .mk (.next env') T' := by
  have tb := Tb.new S1 n
  obtain ⟨L0, hL0⟩ := tb.pre
  refine for_n (N := n) (P := fun _ env T => ∃ i r j S0 L w, env = dE ib n way (S1.length + n) i none r j ∧ T = S0 ++ L ∧ Eff ib S1 S0 ∧ Tb S0 n w T) (rng1 (n := n) (by omega) rfl) ⟨none, none, none, S1, L0, _, rfl, hL0, Eff.rfl' hP, tb⟩ ?_
  rintro i env T hi ⟨i0, r0, j0, S0, L, w, rfl, rfl, hE, h⟩
  have step : ∀ k env T, k < n → (∃ j S0 L w, env = dE ib n way (S1.length + n) (some (dN i)) none (some (.ptr (S1.length + i))) j ∧ T = S0 ++ L ∧ Eff ib S1 S0 ∧ Tb S0 n w T) → ∃ env1 env2 T2, zgName 7 (dN k) env = some env1 ∧ drIn env1 T = .mk (.next env2) T2 ∧ (∃ j S0 L w, env2 = dE ib n way (S1.length + n) (some (dN i)) none (some (.ptr (S1.length + i))) j ∧ T2 = S0 ++ L ∧ Eff ib S1 S0 ∧ Tb S0 n w T2) := by
    rintro k env T hk ⟨j, S0, L, w, rfl, rfl, hE, h⟩
    obtain ⟨S0', L', w', q1, q2, q3⟩ := dr_in (k := none) hw hE.at_ (by rw [hE.len]) h rfl hi hk
    rw [hE.len] at q1
    exact ⟨dE ib n way (S1.length + n) (some (dN i)) none (some (.ptr (S1.length + i))) (some (dN k)), dE ib n way (S1.length + n) (some (dN i)) none (some (.ptr (S1.length + i))) (some (dN k)), S0' ++ L', rfl, q1, ⟨_, S0', L', w', rfl, rfl, hE.trans q2, q3⟩⟩
  obtain ⟨env', T', ⟨j, S0', L', w', rfl, rfl, hE', h'⟩, q⟩ := loop_n (N := n) (b := drIn) (g := zgName 7) (P := fun _ env T => ∃ j S0 L w, env = dE ib n way (S1.length + n) (some (dN i)) none (some (.ptr (S1.length + i))) j ∧ T = S0 ++ L ∧ Eff ib S1 S0 ∧ Tb S0 n w T) ((List.range' (i + 1) (n - (i + 1))).map dN) step (n - (i + 1)) (i + 1) (dE ib n way (S1.length + n) (some (dN i)) none (some (.ptr (S1.length + i))) j0) (S0 ++ L) (by omega) ⟨j0, S0, L, w, rfl, rfl, hE, h⟩
  refine ⟨dE ib n way (S1.length + n) (some (dN i)) none r0 j0, dE ib n way (S1.length + n) (some (dN i)) none (some (.ptr (S1.length + i))) j, S0' ++ L', rfl, ?_, ⟨_, _, _, S0', L', w', rfl, rfl, hE', h'⟩⟩
  refine seq_n (env' := dE ib n way (S1.length + n) (some (dN i)) none (some (.ptr (S1.length + i))) j0) (S' := S0 ++ L) (set_n (op_n (S1 := S0 ++ L) (S2 := S0 ++ L) (d := .ptr (S1.length + n)) (d1 := dN i) rfl rfl (dIx_seq (by unfold seqOf; rw [← hE.len, h.out]) (by rw [List.getElem?_map, List.getElem?_range hi, hE.len]; rfl)))) ?_
  exact zFor_n (rng2 (x := i + 1) (y := n) (by omega) (by omega) rfl rfl) q
theorem dr_up {o : Nat} {r j : Option D} {S0 T : Sto} {e : Nat → Nat → Int} {ds : List D} {i k : Nat} (hn : n ≤ 64) (ho : o = S0.length + n) (h : U2 S0 n e ds T) (hi : i < n) (hk : k < n) :
    ∃ e' ds' T', drUp (dE ib n way o (some (dN i)) (some (dN k)) r j) T = .mk (.next (dE ib n way o (some (dN i)) (some (dN k)) r j)) T' ∧ U2 S0 n e' ds' T' := by
  subst ho
  obtain ⟨r1, g1, g2⟩ := h.mat.get hi hk
  have c : zB (zOp dEq (zOp dIx (zOp dIx (zVar 3) (zVar 4)) (zVar 5)) (zC (.int 1))) (dE ib n way (S0.length + n) (some (dN i)) (some (dN k)) r j) T = .ok (decide (e i k = 1)) T := b_n (op_n (op_n (op_n rfl rfl g1) rfl g2) rfl (eq_1 _ _))
  cases hc : decide (e i k = 1) with
  | false =>
    rw [hc] at c
    exact ⟨e, ds, T, if_f c rfl, h⟩
  | true =>
    rw [hc] at c
    have l := lcK_pure (L := List.range n) (mk := dN) (v := fun y => D.int (if decide (0 < e i y + e k y) then 1 else 0)) (p := fun _ => true) (vs := [7]) (g := zgName 7) (ft := zYes) (fe := (zCall dInt (zCons (zOp dGt (zOp dAdd (zOp dIx (zOp dIx (zVar 3) (zVar 4)) (zVar 7)) (zOp dIx (zOp dIx (zVar 3) (zVar 5)) (zVar 7))) (zC (.int 0))) zNil))) (fi := zRange1 (zCons (zVar 1) zNil)) (env := dE ib n way (S0.length + n) (some (dN i)) (some (dN k)) r j) (S := T) (S1 := T) (rng1 (n := n) (by omega) rfl) (by simp [bigN]; omega) fun y hy => by
      obtain ⟨r1, g1, g2⟩ := h.mat.get hi (List.mem_range.mp hy)
      obtain ⟨r2, g3, g4⟩ := h.mat.get hk (List.mem_range.mp hy)
      exact ⟨dE ib n way (S0.length + n) (some (dN i)) (some (dN k)) r (some (dN y)), rfl, rfl, fun _ => call_n (one_n (op_n (op_n (op_n (op_n rfl rfl g1) rfl g2) (op_n (op_n rfl rfl g3) rfl g4) (ev_add _ _ _)) rfl (ev_gt _ _ _))) (int_b _ _)⟩
    rw [filter_tt] at l
    refine ⟨_, _, _, if_t c (putL_n (d1 := .ptr (S0.length + n)) (d2 := dN i) l rfl rfl ?_), h.set hi fun y => if decide (0 < e i y + e k y) then 1 else 0⟩
    unfold stSet
    simp only [dN, h.out, h.len, ixNn hi]
theorem dr_close {o : Nat} {i0 r j : Option D} {S0 T : Sto} {e : Nat → Nat → Int} (hn : n ≤ 64) (ho : o = S0.length + n) (h : Tb S0 n e T) : ∃ env' T', (∃ i k r e ds, env' = dE ib n way o i k r j ∧ U2 S0 n e ds T') ∧ zFor (zRange1 (zCons (zVar 1) zNil)) (zgName 5) (zFor (zRange1 (zCons (zVar 5) zNil)) (zgName 4) drUp) (dE ib n way o i0 none r j) T = .mk (.next env') T' := by
  refine for_n (N := n) (P := fun _ env T => ∃ i k r e ds, env = dE ib n way o i k r j ∧ U2 S0 n e ds T) (rng1 (n := n) (by omega) rfl) ⟨_, _, _, _, _, rfl, h.u2⟩ ?_
  rintro k env T hk ⟨i1, k1, r1, e1, ds1, rfl, h1⟩
  obtain ⟨env', T', ⟨i2, e2, ds2, rfl, h2⟩, q⟩ := for_n (N := k) (b := drUp) (g := zgName 4) (i := zRange1 (zCons (zVar 5) zNil)) (env := dE ib n way o i1 (some (dN k)) r1 j) (T := T) (P := fun _ env T => ∃ i e ds, env = dE ib n way o i (some (dN k)) r1 j ∧ U2 S0 n e ds T) (rng1 (n := k) (by omega) rfl) ⟨_, _, _, rfl, h1⟩ (by
    rintro i env T hi ⟨i2, e2, ds2, rfl, h2⟩
    obtain ⟨e', ds', T', q1, q2⟩ := dr_up (ib := ib) (way := way) (r := r1) (j := j) hn ho h2 (show i < n by omega) hk
    exact ⟨dE ib n way o (some (dN i)) (some (dN k)) r1 j, dE ib n way o (some (dN i)) (some (dN k)) r1 j, T', rfl, q1, ⟨_, e', ds', rfl, q2⟩⟩)
  exact ⟨dE ib n way o i1 (some (dN k)) r1 j, dE ib n way o i2 (some (dN k)) r1 j, T', rfl, q, ⟨_, _, _, e2, ds2, rfl, h2⟩⟩
theorem eval_drawn {S : Sto} (hP : PoolAt ib S) (hn : n ≤ 64) : ∃ d S', F__law_drawn [.ptr ib, dN n] S = .ok d S' ∧ Eff ib S S' ∧ SpOk n d := by
  obtain ⟨way, S1, h1, h2, h3⟩ := eval_take hP (many := 6) (by decide) (by decide)
  by_cases hw : way < 2
  · obtain ⟨x, S2, h4, h5, h6⟩ := eval_take h2.at_ (many := (n : Int) + 1) (by omega) (by omega)
    obtain ⟨d, S3, h7, h8, h9⟩ := eval_floors (n := n) (wd := 1 + x) h5.at_ hn (by omega) (by omega)
    refine ⟨d, S3, Fof_eff0 ?_ (h2.trans (h5.trans h8)) h9.cl, h2.trans (h5.trans h8), h9⟩
    rw [run_drawn_eq]
    refine seq_n (env' := [some (.ptr ib), some (dN n), some (dN way), none, none, none, none, none]) (S' := S1) (set_n (callF2 rfl rfl h1)) ?_
    refine seq_r (if_t (b_n (op_n rfl rfl ((lt_N way 2 S1).trans (by rw [decide_eq_true hw])))) (ret_n (callF3 rfl rfl (op_n (d := .int 1) (d1 := dN x) rfl (callF2 rfl rfl h4) ((ev_add _ _ _).trans (by rw [dN]; simp [Int.natCast_add]))) h7)))
  · obtain ⟨env1, T1, ⟨i1, r1, j1, S0, L, w, rfl, rfl, hE, tb⟩, q1⟩ := dr_fill (ib := ib) (n := n) (way := way) (S1 := S1) hn ⟨by omega, by omega⟩ h2.at_
    obtain ⟨env2, T2, ⟨i2, k2, r2, e2, ds2, rfl, u2⟩, q2⟩ := dr_close (ib := ib) (way := way) (o := S1.length + n) (i0 := i1) (r := r1) (j := j1) hn (by rw [hE.len]) tb
    obtain ⟨L2, rfl⟩ := u2.pre
    obtain ⟨l, T3, h4, h5, h6⟩ := eval_names (PoolAt.app hE.at_ L2) hn
    have hm := Mat.eff (PoolAt.app hE.at_ L2) h5 u2.mat
    obtain ⟨S3, rfl, h7⟩ := h5.split (PoolAt.lt hE.at_)
    obtain ⟨l1, l2⟩ := nm_ok h4
    obtain ⟨w', h8⟩ := eval_space hn l1 l2 hm
    refine ⟨_, S3, Fof_effL (L := L2) ?_ (h2.trans (hE.trans h7)) cl_sp, h2.trans (hE.trans h7), ⟨w', l, l1, l2, rfl⟩⟩
    rw [run_drawn_eq]
    refine seq_n (env' := [some (.ptr ib), some (dN n), some (dN way), none, none, none, none, none]) (S' := S1) (set_n (callF2 rfl rfl h1)) ?_
    refine seq_n (if_f (b_n (op_n rfl rfl ((lt_N way 2 S1).trans (by rw [decide_eq_false hw])))) rfl) ?_
    refine seq_n (env' := dE ib n way (S1.length + n) none none none none) (S' := rows0 S1 n) (set_n (rows_mk hn (rng1 (n := n) (by omega) rfl) fun j => ⟨_, rfl, fun T => rfl⟩)) ?_
    refine seq_n q1 (seq_n q2 ?_)
    refine ret_n (callF2 (d1 := .ptr (S1.length + n)) h6 rfl ?_)
    rw [hE.len] at h8
    exact h8
end
end K10

namespace K10
open PySem L2 Z K06 K07
open PySem.Spec PyProof.Rows
variable [Tabs]
/-! ### reading a space -/
theorem sk0 : findK SK (.inr "order") = some 0 := by decide +kernel
theorem sk1 : findK SK (.inr "under") = some 1 := by decide +kernel
theorem sk2 : findK SK (.inr "names") = some 2 := by decide +kernel
section
variable {n : Nat} {w : Nat → Nat → Int} {nm : List Nat} {env : En} {S S1 : Sto} {a : EM D}
theorem gF {ks : List Key} {ds : List D} {k : Str} {i : Nat} {d : D} (hk : findK ks (.inr k) = some i) (hd : ds[i]? = some d) (ha : a env S = .ok (.dct ks ds) S1) : zOp dGetD a (zC (.str k)) env S = .ok d S1 := by
  refine op_n ha rfl ?_
  unfold dGetD
  simp only [dctOf, dKey, hk, Option.bind_some, hd]
theorem sp_o (ha : a env S = .ok (spD n w nm) S1) : zOp dGetD a (zC (.str "order")) env S = .ok (ordD n (canon n (ofW w))) S1 := gF sk0 rfl ha
theorem sp_u (ha : a env S = .ok (spD n w nm) S1) : zOp dGetD a (zC (.str "under")) env S = .ok (imat n w) S1 := gF sk1 rfl ha
theorem sp_n (ha : a env S = .ok (spD n w nm) S1) : zOp dGetD a (zC (.str "names")) env S = .ok (.lst (nm.map dN)) S1 := gF sk2 rfl ha
theorem sp_on (ha : a env S = .ok (spD n w nm) S1) : zOp dIx (zOp dGetD a (zC (.str "order"))) (zC (.int 0)) env S = .ok (dN n) S1 := op_n (d1 := .int 0) (sp_o ha) rfl rfl
end
def lq (w : Nat → Nat → Int) (a b : Nat) : Bool := decide (a = b) || ofW w a b
theorem eval_leq {n : Nat} {w : Nat → Nat → Int} {nm : List Nat} {a b : Nat} (ha : a < n) (hb : b < n) (S : Sto) : F__law_leq [spD n w nm, dN a, dN b] S = .ok (.bl (lq w a b)) S := by
  refine Fof_ret0 ?_ trivial
  obtain ⟨r, g1, g2⟩ := (imat_mat n w S).get ha hb
  exact ret_n (orV_b (op_n (d := dN a) (d1 := dN b) rfl rfl (eq_N a b S)) (op_n (op_n (op_n (sp_u rfl) rfl g1) rfl g2) rfl (eq_1 _ _)))
/-- a row -/
def rwD (l : List Nat) : D := .tup (l.map dN)
theorem cl_rw {k : Nat} (l : List Nat) : D.cl k (rwD l) := cls_map (fun x => clN _ _) l
theorem rw_at {l : List Nat} {i : Nat} (h : i < l.length) (S : Sto) : dIx (rwD l) (dN i) S = .ok (dN l[i]) S := by
  show dIx (.tup _) (.int (i : Int)) S = _
  unfold dIx
  have : L2.atI (l.map dN) (i : Int) = some (dN l[i]) := atI_nat (by simp [h])
  simp only [anyOf, this]
theorem rwI_at {l : List Nat} {i : Nat} {env : En} {S S1 S2 : Sto} {a b : EM D} (ha : a env S = .ok (rwD l) S1) (hb : b env S1 = .ok (dN i) S2) (h : i < l.length) : zOp dIx a b env S = .ok (dN (l[i]!)) S2 := by
  rw [getElem!_pos l i h]; exact op_n ha hb (rw_at h S2)
/-! ### the program -/
theorem eval_id (n : Nat) (hn : n ≤ 64) (P : List (Nat × Nat)) (S : Sto) : F_identity_map [ordD n P] S = .ok (rwD (List.range n)) S :=
  Fof_ret0 (ret_n (rgA_n (k := .tup) (n := n) (S1 := S) (op_n (d := ordD n P) (d1 := .int 0) rfl rfl rfl) (by omega))) (cl_rw _)
def comp (row after : List Nat) : List Nat := row.map fun x => after[x]!
theorem eval_compose {row after : List Nat} (hl : row.length ≤ 64) (h : ∀ x ∈ row, x < after.length) (S : Sto) : F_compose [rwD row, rwD after] S = .ok (rwD (comp row after)) S := by
  refine Fof_ret0 ?_ (cl_rw _)
  have e := tG_pure (L := row) (mk := dN) (v := fun x => dN after[x]!) (p := fun _ => true) (vs := [2]) (g := zgName 2) (ft := zYes) (fe := zOp dIx (zVar 1) (zVar 2)) (fi := zSrc (zVar 0)) (env := [some (rwD row), some (rwD after), none]) (S := S) (S1 := S) (src_t rfl) (by unfold bigN; omega) fun x hx =>
    ⟨[some (rwD row), some (rwD after), some (dN x)], rfl, rfl, fun _ => rwI_at (i := x) rfl rfl (h x hx)⟩
  rw [filter_tt] at e
  refine ret_n (e.trans ?_)
  rw [rwD, comp, List.map_map]
  rfl
theorem comp_len (row after : List Nat) : (comp row after).length = row.length := by simp [comp]
theorem eval_selves {n : Nat} (hn : n ≤ 64) (u : Nat → Nat) (S : Sto) : F_with_selves [.lst (tab n u)] S = .ok (.lst (tab n fun x => u x ||| 2 ^ x)) S := by
  refine Fof_ret0 ?_ (cls_map (fun k => clN _ _) _)
  have e := lcK_pure (L := List.range n) (mk := fun x => D.tup [dN x, dN (u x)]) (v := fun x => dN (u x ||| 2 ^ x)) (p := fun _ => true) (vs := [1, 2]) (g := zgTup 2 (zgCons (zgName 1) (zgCons (zgName 2) zgNil))) (ft := zYes) (fe := zOp dOr (zVar 2) (zOp dShl (zC (.int 1)) (zVar 1))) (fi := zEnum (zCons (zVar 0) zNil)) (env := [some (.lst (tab n u)), none, none]) (S := S) (S1 := S) (enum_tab rfl) (by simp [bigN]; omega) fun x hx =>
    ⟨[some (.lst (tab n u)), some (dN x), some (dN (u x))], rfl, rfl, fun _ => op_n (S1 := S) (S2 := S) (d := dN (u x)) (d1 := .int ((2 ^ x : Nat) : Int)) rfl (op_n (S1 := S) (S2 := S) (d := .int 1) (d1 := dN x) rfl rfl (by
      have := List.mem_range.mp hx
      have h3 : (0 : Int) ≤ (x : Int) ∧ (x : Int) ≤ 1000000 ∧ (1 : Int).natAbs < 2 ^ 64 := ⟨by omega, by omega, by decide⟩
      rw [dN, ev_shl, if_pos h3]
      simp)) (by
      show Rs.ok (D.int (Builtin.bitOr ((u x : Nat) : Int) ((2 ^ x : Nat) : Int))) S = _
      rw [bOr_nat]
      rfl)⟩
  rw [filter_tt] at e
  exact ret_n e
def mostF (w : Nat → Nat → Int) (low high : List Nat) : Bool := (List.range low.length).all fun x => lq w low[x]! high[x]!
theorem eval_at_most {n : Nat} {w : Nat → Nat → Int} {low high : List Nat} (hn : n ≤ 64) (h1 : ∀ x ∈ low, x < n) (h2 : ∀ x ∈ high, x < n) (hl : low.length = high.length) (hb : low.length ≤ 64) (S : Sto) :
    F_at_most [ordD n (canon n (ofW w)), rwD low, rwD high] S = .ok (.bl (mostF w low high)) S := by
  refine Fof_ret0 ?_ trivial
  have hP : ∀ p ∈ canon n (ofW w), p.1 < n ∧ p.2 < 64 := fun p hp => by
    obtain ⟨x, y⟩ := p
    have := mem_canon.mp hp
    exact ⟨this.1, by omega⟩
  refine ret_n (callF3 (callF1 (callF1 rfl (eval_above hn hP S)) (eval_selves hn _ S)) rfl rfl ?_)
  refine Fof_ret0 ?_ trivial
  have en : zEnumB (zCons (zVar 1) zNil) [some (.lst (tab n fun x => upF (canon n (ofW w)) (fun _ => 0) x ||| 2 ^ x)), some (rwD low), some (rwD high), none, none] S = .ok ⟨(List.range low.length).map fun x => D.tup [dN x, dN (low[x]!)], none⟩ S := by
    rw [zEnumB, one_n (d := rwD low) (S1 := S) rfl]
    show Rs.ok (⟨(low.map dN).zipIdx.map fun p => D.tup [.int (p.2 : Nat), p.1], none⟩ : Src) S = _
    congr 2
    refine List.ext_getElem (by simp) ?_
    intro i h1 h2
    have hi : i < low.length := by simpa using h1
    have e0 : low[i]! = low[i] := getElem!_pos low i hi
    simp only [List.getElem_map, List.getElem_zipIdx, List.getElem_range, dN, e0]
    simp
  have e := qG_pure (pol := true) (L := List.range low.length) (mk := fun x => D.tup [dN x, dN (low[x]!)]) (q := fun x => lq w low[x]! high[x]!) (w := fun x => D.int (Builtin.bitAnd (((upF (canon n (ofW w)) (fun _ => 0) low[x]! ||| 2 ^ low[x]! : Nat) : Int) / 2 ^ high[x]!) 1)) (p := fun _ => true) (vs := [3, 4]) (g := zgTup 2 (zgCons (zgName 3) (zgCons (zgName 4) zgNil))) (ft := zYes) (fe := zOp dAnd (zOp dShr (zOp dIx (zVar 0) (zVar 4)) (zOp dIx (zVar 2) (zVar 3))) (zC (.int 1))) (fi := zEnumB (zCons (zVar 1) zNil))
    (env := [some (.lst (tab n fun x => upF (canon n (ofW w)) (fun _ => 0) x ||| 2 ^ x)), some (rwD low), some (rwD high), none, none]) (S := S) (S1 := S) en (by simp [bigN]; omega) fun x hx => by
      have hx := List.mem_range.mp hx
      have hlo : low[x]! < n := by rw [getElem!_pos low x hx]; exact h1 _ (List.getElem_mem _)
      have hhi : high[x]! < n := by rw [getElem!_pos high x (by omega)]; exact h2 _ (List.getElem_mem _)
      refine ⟨[some (.lst (tab n fun x => upF (canon n (ofW w)) (fun _ => 0) x ||| 2 ^ x)), some (rwD low), some (rwD high), some (dN x), some (dN low[x]!)], rfl, rfl, fun _ => ⟨?_, ?_⟩⟩
      · refine op_n (d1 := .int 1) (op_n (op_n (d1 := dN low[x]!) rfl rfl (dIx_seq (i := low[x]!) rfl (tab_get _ hlo))) (rwI_at rfl rfl (by omega)) (R := .ok (.int (((upF (canon n (ofW w)) (fun _ => 0) low[x]! ||| 2 ^ low[x]! : Nat) : Int) / 2 ^ high[x]!)) S) ?_) rfl rfl
        rw [dN, dN, ev_shr, if_pos (by omega)]
        rfl
      · show some _ = some _
        congr 1
        rw [and_bit, Nat.testBit_or, Nat.testBit_two_pow, upF_bit]
        unfold lq
        simp only [Nat.zero_testBit, Bool.false_or]
        rw [Bool.or_comm]
        congr 1
        rw [Bool.eq_iff_iff, decide_eq_true_eq, mem_canon]
        exact ⟨fun h => h.2.2, fun h => ⟨hlo, hhi, h⟩⟩
  rw [filter_tt] at e
  exact ret_n e
theorem eval_near {n : Nat} {w : Nat → Nat → Int} {low high : List Nat} (hn : n ≤ 64) (h1 : ∀ x ∈ low, x < n) (h2 : ∀ x ∈ high, x < n) (hl : low.length = high.length) (hb : low.length ≤ 64) (S : Sto) :
    F_are_neighbours [ordD n (canon n (ofW w)), rwD low, rwD high] S = .ok (.bl (mostF w low high || mostF w high low)) S :=
  Fof_ret0 (ret_n (orV_b (callF3 rfl rfl rfl (eval_at_most hn h1 h2 hl hb S)) (callF3 rfl rfl rfl (eval_at_most hn h2 h1 hl.symm (by omega) S)))) trivial
/-! ### the law's own -/
theorem eval_is_most {n : Nat} {w : Nat → Nat → Int} {nm low high : List Nat} (h1 : ∀ x ∈ low, x < n) (h2 : ∀ x ∈ high, x < n) (hl : low.length = high.length) (hb : low.length ≤ 64) (S : Sto) :
    F__law_is_most [spD n w nm, rwD low, rwD high] S = .ok (.bl (mostF w low high)) S := by
  refine Fof_ret0 ?_ trivial
  have hlen : zCall dLen (zCons (zVar 1) zNil) [some (spD n w nm), some (rwD low), some (rwD high), none] S = .ok (dN low.length) S := (lenT_n rfl).trans (by rw [List.length_map])
  have e := lcK_pure (L := List.range low.length) (mk := dN) (v := fun x => dN x) (p := fun x => !lq w low[x]! high[x]!) (vs := [3]) (g := zgName 3) (ft := (zNot (zTru (zCallF 3 F__law_leq (zCons (zVar 0) (zCons (zOp dIx (zVar 1) (zVar 3)) (zCons (zOp dIx (zVar 2) (zVar 3)) zNil))))))) (fe := zVar 3) (fi := zRange1 (zCons (zCall dLen (zCons (zVar 1) zNil)) zNil)) (env := [some (spD n w nm), some (rwD low), some (rwD high), none]) (S := S) (S1 := S) (rng1 (by omega) hlen) (by simp [bigN]; omega) fun x hx => by
    have hx := List.mem_range.mp hx
    have hlo : low[x]! < n := by rw [getElem!_pos low x hx]; exact h1 _ (List.getElem_mem _)
    have hhi : high[x]! < n := by rw [getElem!_pos high x (by omega)]; exact h2 _ (List.getElem_mem _)
    exact ⟨[some (spD n w nm), some (rwD low), some (rwD high), some (dN x)], rfl, not_n (truB_n (callF3 rfl (rwI_at rfl rfl hx) (rwI_at rfl rfl (by omega)) (eval_leq hlo hhi S))), fun _ => rfl⟩
  refine ret_n (op_n (d1 := .int 0) (len_n e) rfl ?_)
  rw [List.length_map]
  show Rs.ok (D.bl (decide (((((List.range low.length).filter fun x => !lq w low[x]! high[x]!).length : Nat) : Int) = 0))) S = _
  congr 2
  unfold mostF
  rw [Bool.eq_iff_iff, decide_eq_true_eq, List.all_eq_true]
  constructor
  · intro h x hx
    have h0 : ((List.range low.length).filter fun x => !lq w low[x]! high[x]!) = [] := List.length_eq_zero_iff.mp (by omega)
    have := List.filter_eq_nil_iff.mp h0 x hx
    simpa using this
  · intro h
    have h0 : ((List.range low.length).filter fun x => !lq w low[x]! high[x]!) = [] := List.filter_eq_nil_iff.mpr fun x hx => by rw [h x hx]; decide
    rw [h0]; rfl
theorem eval_whether (a b : Bool) (S : Sto) : F__law_whether [.bl a, .bl b] S = .ok (.bl (decide (a = b))) S := by
  refine Fof_ret0 (ret_n ?_) trivial
  exact andV_n (by simp [zIsi, tyD]) rfl
theorem eval_composed {row after : List Nat} (hl : row.length ≤ 64) (h : ∀ x ∈ row, x < after.length) (S : Sto) : F__law_composed [rwD row, rwD after] S = .ok (rwD (comp row after)) S := by
  refine Fof_ret0 ?_ (cl_rw _)
  have loop : ∀ (L : List Nat) (acc : List Nat) (x : Option D), acc.length + L.length ≤ 64 → (∀ y ∈ L, y < after.length) → ∃ x', forL ⟨row.map dN, none⟩ (zgName 3) (zSet 2 (zOp dAdd (zVar 2) (zTup (zCons (zOp dIx (zVar 1) (zVar 3)) zNil)))) (L.map dN) [some (rwD row), some (rwD after), some (rwD acc), x] S = .mk (.next [some (rwD row), some (rwD after), some (rwD (acc ++ comp L after)), x']) S := by
    intro L
    induction L with
    | nil => intro acc x _ _; exact ⟨x, by rw [List.map_nil, forL_nil rfl]; simp [comp]⟩
    | cons y L ih =>
      intro acc x hb hy
      obtain ⟨x', e⟩ := ih (acc ++ [after[y]!]) (some (dN y)) (by simp at hb ⊢; omega) fun z hz => hy z (List.mem_cons_of_mem _ hz)
      refine ⟨x', ?_⟩
      rw [List.map_cons, forL_cons (env1 := [some (rwD row), some (rwD after), some (rwD acc), some (dN y)]) rfl rfl]
      have : zSet 2 (zOp dAdd (zVar 2) (zTup (zCons (zOp dIx (zVar 1) (zVar 3)) zNil))) [some (rwD row), some (rwD after), some (rwD acc), some (dN y)] S = .mk (.next [some (rwD row), some (rwD after), some (rwD (acc ++ [after[y]!])), some (dN y)]) S := by
        refine set_n (op_n (d := rwD acc) (d1 := .tup [dN after[y]!]) rfl (tup_n (one_n (rwI_at rfl rfl (hy y List.mem_cons_self))) (by simp [bigN])) ((tups_add (by simp at hb ⊢; unfold bigN; omega) S).trans ?_))
        rw [rwD, List.map_append]; rfl
      rw [this, Ss.turn_next, e]
      simp [comp]
  obtain ⟨x', e⟩ := loop row [] none (by simpa using hl) h
  refine seq_n (env' := [some (rwD row), some (rwD after), some (rwD []), none]) (S' := S) (set_n (tup_n nil_n (by simp [bigN]))) ?_
  exact seq_n (zFor_n (src_t rfl) e) (ret_n rfl)
@[simp] theorem isiT1 : (["tuple"].any (subT "tuple")) = true := by decide +kernel
@[simp] theorem isiT2 : (["tuple"].any (subT "int")) = false := by decide +kernel
@[simp] theorem isiB1 : (["bool"].any (subT "int")) = false := by decide +kernel
@[simp] theorem isiS1 : (["str"].any (subT "int")) = false := by decide +kernel
@[simp] theorem isiI1 : (["int"].any (subT "int")) = true := by decide +kernel
theorem same_int (k : Nat) (i : Int) (S : Sto) : F__law_same (k + 1) [.int i, .int i] S = .ok (.bl true) S := by
  unfold F__law_same
  exact Fof_ret0 (by simp [run__law_same, zIsi, tyD]) trivial
theorem same_row (k : Nat) {l : List Nat} (h : l.length ≤ 64) (S : Sto) : F__law_same (k + 2) [rwD l, rwD l] S = .ok (.bl true) S := by
  unfold F__law_same
  refine Fof_ret0 (d := .bl true) ?_ trivial
  obtain ⟨x', e⟩ := alike_loop (F := F__law_same (k + 1)) (ds := l.map dN) (t := rwD l) (S := S) (.inl rfl) (fun d hd => by
    obtain ⟨x, _, rfl⟩ := List.mem_map.mp hd
    exact same_int k x S) ((List.range l.length).map dN) (List.range l.length) none fun i hi => by simpa using List.mem_range.mp hi
  simp only [rwD] at e ⊢
  simp [run__law_same, zIsi, tyD, zFor, zRange1, show (l.length : Int) ≤ 1000000 by omega, show -1000000 ≤ (l.length : Int) by omega, rangeD_n, e]
end K10

namespace K10
open PySem L2 Z K06 K07
open PySem.Spec PyProof.Rows
variable [Tabs]
theorem lcK_mk {α : Type} {k : Mk} {L : List α} {mk v : α → D} {fi : EI} {g : GM} {fe : EM D} {vs : List Nat} {env : En} {S S1 : Sto} (hi : fi env S = .ok ⟨L.map mk, none⟩ S1) (hb : L.length ≤ bigN) (h : ∀ a ∈ L, ∃ env1, g (mk a) (wipeE env vs) = some env1 ∧ fe env1 S1 = .ok (v a) S1) : zLcK k vs fi g zYes fe env S = k.res (L.map v) S1 := by
  rw [zLcK, hi, Rs.bnd_ok]
  show ((lcA ⟨L.map mk, none⟩ g zYes fe (wipeE env vs) (L.map mk) [] S1).bnd k.res) = _
  rw [lcA_pure (ft := zYes) (p := fun _ => true) (v := v) rfl L [] (by simpa using hb) fun a ha => let ⟨e1, h1, h2⟩ := h a ha; ⟨e1, h1, rfl, fun _ => h2⟩, filter_tt]
  rfl
theorem cut_take (l : List D) {v : Nat} (h : v ≤ l.length) : Z.cutD l none (some (v : Int)) = l.take v := by
  unfold Z.cutD
  rw [HT.sIx_none, HT.sIx_nat]
  simp [Nat.min_eq_left h]
theorem cut_drop (l : List D) {v : Nat} (h : v ≤ l.length) : Z.cutD l (some (v : Int)) none = l.drop v := by
  unfold Z.cutD
  rw [HT.sIx_none, HT.sIx_nat, Nat.min_eq_left h]
  exact (List.take_of_length_le (by simp))
/-- a walk that may end a def -/
theorem loop_r {b : SM} {g : GM} {P : Nat → En → Sto → Prop} {R : D → Sto → Prop} {N : Nat} (xs : List D) (step : ∀ i env T, i < N → P i env T → ∃ env1, g (dN i) env = some env1 ∧ ((∃ env2 T2, b env1 T = .mk (.next env2) T2 ∧ P (i + 1) env2 T2) ∨ ∃ d T2, b env1 T = .mk (.ret d) T2 ∧ R d T2)) : ∀ (k i : Nat) (env : En) (T : Sto), i + k = N → P i env T →
    (∃ env' T', P N env' T' ∧ forL ⟨xs, none⟩ g b ((List.range' i k).map dN) env T = .mk (.next env') T') ∨ ∃ d T', R d T' ∧ forL ⟨xs, none⟩ g b ((List.range' i k).map dN) env T = .mk (.ret d) T'
  | 0, i, env, T, h, hP => .inl ⟨env, T, by rwa [show N = i by omega], by rw [List.range'_zero, List.map_nil, forL_nil rfl]⟩
  | k + 1, i, env, T, h, hP => by
    obtain ⟨env1, h1, ⟨env2, T2, h2, h3⟩ | ⟨d, T2, h2, h3⟩⟩ := step i env T (by omega) hP
    · rcases loop_r xs step k (i + 1) env2 T2 (by omega) h3 with ⟨env', T', h4, h5⟩ | ⟨d, T', h4, h5⟩
      · exact .inl ⟨env', T', h4, by rw [List.range'_succ, List.map_cons, forL_cons rfl h1, h2, Ss.turn_next]; exact h5⟩
      · exact .inr ⟨d, T', h4, by rw [List.range'_succ, List.map_cons, forL_cons rfl h1, h2, Ss.turn_next]; exact h5⟩
    · exact .inr ⟨d, T2, h3, by rw [List.range'_succ, List.map_cons, forL_cons rfl h1, h2, Ss.turn_ret]⟩
theorem eval_rises {n m : Nat} {w w2 : Nat → Nat → Int} {nm nm2 row : List Nat} (hn : n ≤ 64) (hl : row.length = n) (hr : ∀ x ∈ row, x < m) (S : Sto) : ∃ b, F__law_rises [spD n w nm, spD m w2 nm2, rwD row] S = .ok (.bl b) S := by
  have src : zSrc (zOp dIx (zOp dGetD (zVar 0) (zC (.str "order"))) (zC (.int 1))) [some (spD n w nm), some (spD m w2 nm2), some (rwD row), none, none] S = .ok ⟨(canon n (ofW w)).map pD, none⟩ S := src_t (op_n (d1 := .int 1) (sp_o rfl) rfl rfl)
  have key := forL_find (s := ⟨(canon n (ofW w)).map pD, none⟩) (mk := pD) (g := zgTup 2 (zgCons (zgName 3) (zgCons (zgName 4) zgNil))) (b := (zIfS (zNot (zTru (zCallF 3 F__law_leq (zCons (zVar 1) (zCons (zOp dIx (zVar 2) (zVar 3)) (zCons (zOp dIx (zVar 2) (zVar 4)) zNil)))))) (zRet (zC (.bl false))) zNext)) (S := S) (p := fun q : Nat × Nat => !lq w2 row[q.1]! row[q.2]!) (w := fun _ => D.bl false) (P := fun env => ∃ a b, env = [some (spD n w nm), some (spD m w2 nm2), some (rwD row), a, b]) rfl (canon n (ofW w)) [some (spD n w nm), some (spD m w2 nm2), some (rwD row), none, none] ⟨none, none, rfl⟩ (by
    rintro ⟨x, y⟩ hp env ⟨a, b, rfl⟩
    have hc := mem_canon.mp hp
    have hx : row[x]! < m := by rw [getElem!_pos row x (by omega)]; exact hr _ (List.getElem_mem _)
    have hy : row[y]! < m := by rw [getElem!_pos row y (by omega)]; exact hr _ (List.getElem_mem _)
    have c : zNot (zTru (zCallF 3 F__law_leq (zCons (zVar 1) (zCons (zOp dIx (zVar 2) (zVar 3)) (zCons (zOp dIx (zVar 2) (zVar 4)) zNil))))) [some (spD n w nm), some (spD m w2 nm2), some (rwD row), some (dN x), some (dN y)] S = .ok (!lq w2 row[x]! row[y]!) S := not_n (truB_n (callF3 rfl (rwI_at rfl rfl (by omega)) (rwI_at rfl rfl (by omega)) (eval_leq hx hy S)))
    refine ⟨[some (spD n w nm), some (spD m w2 nm2), some (rwD row), some (dN x), some (dN y)], _, rfl, fun h => if_t (c.trans (by rw [h])) rfl, fun h => ⟨if_f (c.trans (by rw [h])) rfl, ⟨_, _, rfl⟩⟩⟩)
  rcases key with ⟨a, _, e⟩ | ⟨_, env', ⟨x, y, rfl⟩, e⟩
  · exact ⟨false, Fof_ret0 (seq_r (zFor_n src e)) trivial⟩
  · exact ⟨true, Fof_ret0 (seq_n (zFor_n src e) rfl) trivial⟩
def bdF (w : Nat → Nat → Int) (vs : List Nat) (q : Nat) : Bool := decide (((vs.filter fun v => !lq w v q).length : Int) = 0)
theorem eval_bounds {m : Nat} {w2 : Nat → Nat → Int} {nm2 vs : List Nat} {q : Nat} (hv : ∀ x ∈ vs, x < m) (hb : vs.length ≤ 64) (hq : q < m) (S : Sto) : F__law_bounds [spD m w2 nm2, .lst (vs.map dN), dN q] S = .ok (.bl (bdF w2 vs q)) S := by
  refine Fof_ret0 ?_ trivial
  have e := lcK_pure (L := vs) (mk := dN) (v := fun x => dN x) (p := fun v => !lq w2 v q) (vs := [3]) (g := zgName 3) (ft := (zNot (zTru (zCallF 3 F__law_leq (zCons (zVar 0) (zCons (zVar 3) (zCons (zVar 2) zNil))))))) (fe := zVar 3) (fi := zSrc (zVar 1)) (env := [some (spD m w2 nm2), some (.lst (vs.map dN)), some (dN q), none]) (S := S) (S1 := S) (src_l rfl) (by unfold bigN; omega) fun x hx =>
    ⟨[some (spD m w2 nm2), some (.lst (vs.map dN)), some (dN q), some (dN x)], rfl, not_n (truB_n (callF3 rfl rfl rfl (eval_leq (hv x hx) hq S))), fun _ => rfl⟩
  refine ret_n (op_n (d1 := .int 0) (len_n e) rfl ?_)
  rw [List.length_map]
  rfl
/-! ### maps -/
noncomputable def mpB : SM := (zSeq (zSet 6 (zLcK .frz [10] (zSrc (zSl (zVar 3) zNoPart (zPart (zVar 5)))) (zgName 10) (zB (zOp dEq (zOp dIx (zOp dIx (zOp dGetD (zVar 1) (zC (.str "under"))) (zVar 10)) (zOp dIx (zVar 3) (zVar 5))) (zC (.int 1)))) (zOp dIx (zVar 4) (zVar 10))))
    (zSeq (zSet 7 (zLcK .frz [11] (zRange1 (zCons (zOp dIx (zOp dGetD (zVar 2) (zC (.str "order"))) (zC (.int 0))) zNil)) (zgName 11) (zTru (zCallF 3 F__law_bounds (zCons (zVar 2) (zCons (zVar 6) (zCons (zVar 11) zNil))))) (zVar 11)))
    (zSeq (zIfS (zB (zOp dEq (zCall dLen (zCons (zVar 7) zNil)) (zC (.int 0)))) (zSeq (zSet 9 (zCallF 2 F__law_take (zCons (zVar 0) (zCons (zOp dIx (zOp dGetD (zVar 2) (zC (.str "order"))) (zC (.int 0))) zNil))))
    (zRet (zCall dTuple (zCons (zLcK .frz [8] (zSrc (zVar 3)) (zgName 8) zYes (zVar 9)) zNil)))) zNext)
    (zPut (zVar 4) (zOp dIx (zVar 3) (zVar 5)) (zOp dIx (zVar 7) (zCallF 2 F__law_take (zCons (zVar 0) (zCons (zCall dLen (zCons (zVar 7) zNil)) zNil))))))))
theorem run_map_eq : run__law_map = (zSeq (zSet 3 (zOp dGetD (zVar 1) (zC (.str "names"))))
    (zSeq (zSet 4 (zLcK .cel [8] (zSrc (zVar 3)) (zgName 8) zYes (zC (.int 0))))
    (zSeq (zFor (zRange1 (zCons (zCall dLen (zCons (zVar 3) zNil)) zNil)) (zgName 5) mpB)
    (zRet (zCall dTuple (zCons (zVar 4) zNil)))))) := rfl
/-- a row of m's points for n points -/
def RwOk (n m : Nat) (d : D) : Prop := ∃ row : List Nat, row.length = n ∧ (∀ x ∈ row, x < m) ∧ d = rwD row
section
variable {ib n m : Nat} {w w2 : Nat → Nat → Int} {nm nm2 : List Nat}
def mE (ib n m : Nat) (w w2 : Nat → Nat → Int) (nm nm2 : List Nat) (o : Nat) (i v f val : Option D) : En := [some (.ptr ib), some (spD n w nm), some (spD m w2 nm2), some (.lst (nm.map dN)), some (.ptr o), i, v, f, none, val, none, none]
theorem mp_step {S0 : Sto} {row : List Nat} {i : Nat} {v0 f0 : Option D} (hP : PoolAt ib S0) (hn : n ≤ 64) (hm : m ≤ 64) (hnl : nm.length = n) (hnr : ∀ x ∈ nm, x < n) (hrl : row.length = n) (hrr : ∀ x ∈ row, x < m) (hi : i < n) :
    (∃ (S1 : Sto) (row' : List Nat) (v f : Option D), mpB (mE ib n m w w2 nm nm2 S0.length (some (dN i)) v0 f0 none) (S0 ++ [.lst (row.map dN)]) = .mk (.next (mE ib n m w w2 nm nm2 S0.length (some (dN i)) v f none)) (S1 ++ [.lst (row'.map dN)]) ∧ Eff ib S0 S1 ∧ row'.length = n ∧ ∀ x ∈ row', x < m) ∨
    ∃ S1 d, mpB (mE ib n m w w2 nm nm2 S0.length (some (dN i)) v0 f0 none) (S0 ++ [.lst (row.map dN)]) = .mk (.ret d) (S1 ++ [.lst (row.map dN)]) ∧ Eff ib S0 S1 ∧ RwOk n m d := by
  have hil : i < nm.length := by omega
  have hpos : 0 < m := by
    have hr0 : 0 < row.length := by omega
    have := hrr row[0] (List.getElem_mem hr0)
    omega
  have hseq : seqOf (.ptr S0.length) (S0 ++ [C.lst (row.map dN)]) = some (row.map dN) := by
    unfold seqOf
    rw [List.getElem?_append_right (Nat.le_refl _)]
    simp
  -- values
  have sl : zSrc (zSl (zVar 3) zNoPart (zPart (zVar 5))) (mE ib n m w w2 nm nm2 S0.length (some (dN i)) v0 f0 none) (S0 ++ [.lst (row.map dN)]) = .ok ⟨(nm.take i).map dN, none⟩ (S0 ++ [.lst (row.map dN)]) := by
    have k1 := cut_take (nm.map dN) (v := i) (by simp; omega)
    refine src_l ?_
    simp only [zSl, zVar, mE, List.getElem?_cons_succ, List.getElem?_cons_zero, Rs.bnd_ok, zNoPart, zPart, dN, dSl, seqOf, k1]
    rw [List.map_take]
  have e1 := lcK_pure (L := nm.take i) (mk := dN) (v := fun y => dN row[y]!) (p := fun y => decide (w y nm[i]! = 1)) (vs := [10]) (g := zgName 10) (ft := (zB (zOp dEq (zOp dIx (zOp dIx (zOp dGetD (zVar 1) (zC (.str "under"))) (zVar 10)) (zOp dIx (zVar 3) (zVar 5))) (zC (.int 1))))) (fe := zOp dIx (zVar 4) (zVar 10)) (fi := zSrc (zSl (zVar 3) zNoPart (zPart (zVar 5)))) (env := mE ib n m w w2 nm nm2 S0.length (some (dN i)) v0 f0 none) (S := S0 ++ [.lst (row.map dN)]) (S1 := S0 ++ [.lst (row.map dN)]) sl (by unfold bigN; rw [List.length_take]; omega) fun y hy => by
    have hy' : y < n := hnr y (List.mem_of_mem_take hy)
    have hx' : nm[i]! < n := by rw [getElem!_pos nm i hil]; exact hnr _ (List.getElem_mem _)
    obtain ⟨r, g1, g2⟩ := (imat_mat n w (S0 ++ [C.lst (row.map dN)])).get hy' hx'
    refine ⟨[some (.ptr ib), some (spD n w nm), some (spD m w2 nm2), some (.lst (nm.map dN)), some (.ptr S0.length), some (dN i), v0, f0, none, none, some (dN y), none], rfl, b_n (op_n (op_n (op_n (sp_u rfl) rfl g1) (op_n rfl rfl ((nm_at hil _).trans (by rw [getElem!_pos nm i hil]; rfl))) g2) rfl (eq_1 _ _)), fun _ => op_n rfl rfl (dIx_seq (i := y) hseq ?_)⟩
    rw [List.getElem?_map, List.getElem?_eq_getElem (by omega), getElem!_pos row y (by omega)]
    rfl
  let vals : List Nat := ((nm.take i).filter fun y => decide (w y nm[i]! = 1)).map fun y => row[y]!
  have hvl : vals.length ≤ 64 := by
    show (List.map _ _).length ≤ 64
    rw [List.length_map]
    refine Nat.le_trans (List.length_filter_le _ _) ?_
    rw [List.length_take]; omega
  have hvr : ∀ x ∈ vals, x < m := fun x hx => by
    obtain ⟨y, hyy, rfl⟩ := List.mem_map.mp hx
    have hy' : y < n := hnr y (List.mem_of_mem_take (List.mem_filter.mp hyy).1)
    rw [getElem!_pos row y (by omega)]
    exact hrr _ (List.getElem_mem _)
  have ev : (D.lst (((nm.take i).filter fun y => decide (w y nm[i]! = 1)).map fun y => dN row[y]!)) = .lst (vals.map dN) := by
    show _ = D.lst ((List.map _ _).map dN)
    rw [List.map_map]; rfl
  rw [ev] at e1
  -- fit
  have e2 := lcK_pure (L := List.range m) (mk := dN) (v := fun q => dN q) (p := fun q => bdF w2 vals q) (vs := [11]) (g := zgName 11) (ft := (zTru (zCallF 3 F__law_bounds (zCons (zVar 2) (zCons (zVar 6) (zCons (zVar 11) zNil)))))) (fe := zVar 11) (fi := zRange1 (zCons (zOp dIx (zOp dGetD (zVar 2) (zC (.str "order"))) (zC (.int 0))) zNil)) (env := mE ib n m w w2 nm nm2 S0.length (some (dN i)) (some (.lst (vals.map dN))) f0 none) (S := S0 ++ [.lst (row.map dN)]) (S1 := S0 ++ [.lst (row.map dN)]) (rng1 (n := m) (by omega) (sp_on rfl)) (by simp [bigN]; omega) fun q hq =>
    ⟨[some (.ptr ib), some (spD n w nm), some (spD m w2 nm2), some (.lst (nm.map dN)), some (.ptr S0.length), some (dN i), some (.lst (vals.map dN)), f0, none, none, none, some (dN q)], rfl, truB_n (callF3 rfl rfl rfl (eval_bounds hvr hvl (List.mem_range.mp hq) _)), fun _ => rfl⟩
  let fit : List Nat := (List.range m).filter fun q => bdF w2 vals q
  have hfl : fit.length ≤ 64 := by
    refine Nat.le_trans (List.length_filter_le _ _) ?_
    rw [List.length_range]; exact hm
  have hfr : ∀ x ∈ fit, x < m := fun x hx => List.mem_range.mp (List.mem_filter.mp hx).1
  have len1 : zCall dLen (zCons (zVar 7) zNil) (mE ib n m w w2 nm nm2 S0.length (some (dN i)) (some (.lst (vals.map dN))) (some (.lst (fit.map dN))) none) (S0 ++ [.lst (row.map dN)]) = .ok (dN fit.length) (S0 ++ [.lst (row.map dN)]) := (len_n rfl).trans (by rw [List.length_map])
  have c : zB (zOp dEq (zCall dLen (zCons (zVar 7) zNil)) (zC (.int 0))) (mE ib n m w w2 nm nm2 S0.length (some (dN i)) (some (.lst (vals.map dN))) (some (.lst (fit.map dN))) none) (S0 ++ [.lst (row.map dN)]) = .ok (decide (fit.length = 0)) (S0 ++ [.lst (row.map dN)]) := b_n (op_n len1 (d1 := dN 0) rfl (eq_N _ _ _))
  by_cases hf : fit.length = 0
  · right
    rw [decide_eq_true hf] at c
    obtain ⟨v, T1, h1, h2, h3⟩ := eval_take (hP.app [.lst (row.map dN)]) (many := (m : Int)) (by omega) (by omega)
    obtain ⟨S1, rfl, h4⟩ := h2.split hP.lt
    have e3 := lcK_pure (L := nm) (mk := dN) (v := fun _ => dN v) (p := fun _ => true) (vs := [8]) (g := zgName 8) (ft := zYes) (fe := zVar 9) (fi := zSrc (zVar 3)) (env := mE ib n m w w2 nm nm2 S0.length (some (dN i)) (some (.lst (vals.map dN))) (some (.lst (fit.map dN))) (some (dN v))) (S := S1 ++ [.lst (row.map dN)]) (S1 := S1 ++ [.lst (row.map dN)]) (src_l rfl) (by unfold bigN; omega) fun y hy =>
      ⟨[some (.ptr ib), some (spD n w nm), some (spD m w2 nm2), some (.lst (nm.map dN)), some (.ptr S0.length), some (dN i), some (.lst (vals.map dN)), some (.lst (fit.map dN)), some (dN y), some (dN v), none, none], rfl, rfl, fun _ => rfl⟩
    rw [filter_tt] at e3
    refine ⟨S1, rwD (nm.map fun _ => v), ?_, h4, ⟨_, by rw [List.length_map, hnl], fun x hx => ?_, rfl⟩⟩
    · unfold mpB
      refine seq_n (set_n e1) (seq_n (set_n e2) (seq_r (if_t c (seq_n (set_n (callF2 rfl (sp_on rfl) h1)) (ret_n ?_)))))
      refine (tupOf_n e3).trans ?_
      rw [rwD, List.map_map]; rfl
    · obtain ⟨_, _, rfl⟩ := List.mem_map.mp hx
      omega
  · left
    rw [decide_eq_false hf] at c
    obtain ⟨k, T1, h1, h2, h3⟩ := eval_take (hP.app [.lst (row.map dN)]) (many := (fit.length : Int)) (by omega) (by omega)
    obtain ⟨S1, rfl, h4⟩ := h2.split hP.lt
    have hk : k < fit.length := by omega
    have hx' : nm[i]! < n := by rw [getElem!_pos nm i hil]; exact hnr _ (List.getElem_mem _)
    refine ⟨S1, row.set nm[i]! fit[k], some (.lst (vals.map dN)), some (.lst (fit.map dN)), ?_, h4, by rw [List.length_set, hrl], fun x hx => ?_⟩
    · unfold mpB
      refine seq_n (set_n e1) (seq_n (set_n e2) (seq_n (if_f c rfl) ?_))
      refine putL_n (d := dN fit[k]) (d1 := .ptr S0.length) (d2 := dN nm[i]!) (S1 := S1 ++ [.lst (row.map dN)]) (S2 := S1 ++ [.lst (row.map dN)]) (S3 := S1 ++ [.lst (row.map dN)]) (op_n (d := .lst (fit.map dN)) (d1 := dN k) rfl (callF2 rfl len1 h1) (nm_at hk _)) rfl (op_n rfl rfl ((nm_at hil _).trans (by rw [getElem!_pos nm i hil]))) ?_
      have g0 : (S1 ++ [C.lst (row.map dN)])[S0.length]? = some (.lst (row.map dN)) := by rw [← h4.len, List.getElem?_append_right (Nat.le_refl _)]; simp
      unfold stSet
      simp only [dN, g0]
      have : (row.map dN).length = n := by rw [List.length_map, hrl]
      rw [this, ixNn hx']
      simp only []
      rw [← h4.len, List.set_append_right _ _ (Nat.le_refl _), Nat.sub_self, List.set_cons_zero, List.map_set]
      rfl
    · rcases List.mem_or_eq_of_mem_set hx with h | h
      · exact hrr x h
      · rw [h]; exact hfr _ (List.getElem_mem _)
theorem eval_map {S : Sto} {d1 d2 : D} (hP : PoolAt ib S) (hn : n ≤ 64) (hm : m ≤ 64) (hnm : 0 < n → 0 < m) (h1 : SpOk n d1) (h2 : SpOk m d2) : ∃ d S', F__law_map [.ptr ib, d1, d2] S = .ok d S' ∧ Eff ib S S' ∧ RwOk n m d := by
  obtain ⟨w, nm, hnl, hnr, rfl⟩ := h1
  obtain ⟨w2, nm2, _, _, rfl⟩ := h2
  have e0 := lcK_mk (k := .cel) (L := nm) (mk := dN) (v := fun _ => dN 0) (vs := [8]) (g := zgName 8) (fe := zC (.int 0)) (fi := zSrc (zVar 3)) (env := [some (.ptr ib), some (spD n w nm), some (spD m w2 nm2), some (.lst (nm.map dN)), none, none, none, none, none, none, none, none]) (S := S) (S1 := S) (src_l rfl) (by unfold bigN; omega) fun y hy => ⟨_, rfl, rfl⟩
  have hz : (nm.map fun _ => dN 0) = (nm.map fun _ => 0).map dN := by rw [List.map_map]; rfl
  rw [hz] at e0
  have lp := loop_r (N := n) (b := mpB) (g := zgName 5) (P := fun _ env T => ∃ (S0 : Sto) (row : List Nat) (i v f : Option D), env = mE ib n m w w2 nm nm2 S.length i v f none ∧ T = S0 ++ [.lst (row.map dN)] ∧ Eff ib S S0 ∧ row.length = n ∧ ∀ x ∈ row, x < m) (R := fun d T => ∃ S0 L, T = S0 ++ L ∧ Eff ib S S0 ∧ RwOk n m d) ((List.range n).map dN) (by
    rintro i env T hi ⟨S0, row, i0, v0, f0, rfl, rfl, hE, hrl, hrr⟩
    refine ⟨mE ib n m w w2 nm nm2 S.length (some (dN i)) v0 f0 none, rfl, ?_⟩
    have st := mp_step (w := w) (w2 := w2) (nm := nm) (nm2 := nm2) (v0 := v0) (f0 := f0) hE.at_ hn hm hnl hnr hrl hrr hi
    rw [hE.len] at st
    rcases st with ⟨S1, row', v, f, q1, q2, q3, q4⟩ | ⟨S1, d, q1, q2, q3⟩
    · exact .inl ⟨_, _, q1, S1, row', _, _, _, rfl, rfl, hE.trans q2, q3, q4⟩
    · exact .inr ⟨d, _, q1, S1, _, rfl, hE.trans q2, q3⟩) n 0 (mE ib n m w w2 nm nm2 S.length none none none none) (S ++ [.lst ((nm.map fun _ => 0).map dN)]) (by omega) ⟨S, _, none, none, none, rfl, rfl, Eff.rfl' hP, by rw [List.length_map, hnl], fun x hx => by
      obtain ⟨y, hyy, rfl⟩ := List.mem_map.mp hx
      exact hnm (by have := List.length_pos_of_mem hyy; omega)⟩
  rw [← List.range_eq_range'] at lp
  have rn : zRange1 (zCons (zCall dLen (zCons (zVar 3) zNil)) zNil) (mE ib n m w w2 nm nm2 S.length none none none none) (S ++ [.lst ((nm.map fun _ => 0).map dN)]) = .ok ⟨(List.range n).map dN, none⟩ (S ++ [.lst ((nm.map fun _ => 0).map dN)]) := rng1 (n := n) (by omega) ((len_n rfl).trans (by rw [List.length_map, hnl]))
  have start : ∀ r : Ss, (∀ k : SM, (zSeq (zFor (zRange1 (zCons (zCall dLen (zCons (zVar 3) zNil)) zNil)) (zgName 5) mpB) (zRet (zCall dTuple (zCons (zVar 4) zNil)))) (mE ib n m w w2 nm nm2 S.length none none none none) (S ++ [.lst ((nm.map fun _ => 0).map dN)]) = r) → run__law_map (startE N__law_map [.ptr ib, spD n w nm, spD m w2 nm2]) S = r := fun r h => by
    rw [run_map_eq]
    refine seq_n (env' := [some (.ptr ib), some (spD n w nm), some (spD m w2 nm2), some (.lst (nm.map dN)), none, none, none, none, none, none, none, none]) (S' := S) (set_n (sp_n rfl)) ?_
    exact seq_n (set_n (e0.trans rfl)) (h zNext)
  rcases lp with ⟨env', T', ⟨S0, row, i, v, f, rfl, rfl, hE, hrl, hrr⟩, q⟩ | ⟨d, T', ⟨S0, L, rfl, hE, hR⟩, q⟩
  · refine ⟨rwD row, S0, Fof_effL (L := [.lst (row.map dN)]) (start _ fun _ => seq_n (zFor_n rn q) (ret_n (call_n (one_n rfl) ?_))) hE (cl_rw _), hE, ⟨row, hrl, hrr, rfl⟩⟩
    have g0 : (S0 ++ [C.lst (row.map dN)])[S.length]? = some (.lst (row.map dN)) := by rw [← hE.len, List.getElem?_append_right (Nat.le_refl _)]; simp
    simp only [dTuple, seqOf, g0]
    rfl
  · obtain ⟨row, q1, q2, rfl⟩ := id hR
    exact ⟨rwD row, S0, Fof_effL (L := L) (start _ fun _ => seq_r (zFor_n rn q)) hE (cl_rw _), hE, hR⟩
end
end K10

namespace K10
open PySem L2 Z K06 K07
open PySem.Spec PyProof.Rows
variable [Tabs]
/-! ### a map moved -/
noncomputable def mvB : SM := (zSeq (zSet 7 (zCallF 2 F__law_take (zCons (zVar 0) (zCons (zVar 5) zNil))))
    (zSeq (zSet 8 (zCallF 2 F__law_take (zCons (zVar 0) (zCons (zOp dIx (zOp dGetD (zVar 2) (zC (.str "order"))) (zC (.int 0))) zNil))))
    (zSeq (zSet 9 (zOp dAdd (zOp dAdd (zSl (zVar 3) zNoPart (zPart (zVar 7))) (zTup (zCons (zVar 8) zNil))) (zSl (zVar 3) (zPart (zOp dAdd (zVar 7) (zC (.int 1)))) zNoPart)))
    (zSeq (zSet 10 (zOp dIx (zLst (zCons (zLst (zCons (zVar 8) (zCons (zOp dIx (zVar 3) (zVar 7)) zNil))) (zCons (zLst (zCons (zOp dIx (zVar 3) (zVar 7)) (zCons (zVar 8) zNil))) zNil))) (zCall dInt (zCons (zVar 4) zNil))))
    (zIfS (zAnd (zTru (zCallF 3 F__law_leq (zCons (zVar 2) (zCons (zOp dIx (zVar 10) (zC (.int 0))) (zCons (zOp dIx (zVar 10) (zC (.int 1))) zNil))))) (zTru (zCallF 3 F__law_rises (zCons (zVar 1) (zCons (zVar 2) (zCons (zVar 9) zNil)))))) (zSet 3 (zVar 9)) zNext)))))
theorem run_moved_eq : run__law_moved = (zSeq (zSet 5 (zCall dLen (zCons (zVar 3) zNil)))
    (zSeq (zFor (zRange1 (zCons (zOp dMul (zCallF 2 F__law_take (zCons (zVar 0) (zCons (zC (.int 8)) zNil))) (zCall dInt (zCons (zOp dGt (zVar 5) (zC (.int 0))) zNil))) zNil)) (zgName 6) mvB)
    (zRet (zVar 3)))) := rfl
section
variable {ib n m : Nat} {w w2 : Nat → Nat → Int} {nm nm2 : List Nat}
def vE (ib n m : Nat) (w w2 : Nat → Nat → Int) (nm nm2 row : List Nat) (up : Bool) (t x v o e : Option D) : En := [some (.ptr ib), some (spD n w nm), some (spD m w2 nm2), some (rwD row), some (.bl up), some (dN n), t, x, v, o, e]
theorem mv_step {S : Sto} {row : List Nat} {up : Bool} {t x0 v0 o0 e0 : Option D} (hP : PoolAt ib S) (hn : n ≤ 64) (hm : m ≤ 64) (hrl : row.length = n) (hrr : ∀ x ∈ row, x < m) (h0 : 0 < n) :
    ∃ S' row' x v o e, mvB (vE ib n m w w2 nm nm2 row up t x0 v0 o0 e0) S = .mk (.next (vE ib n m w w2 nm nm2 row' up t x v o e)) S' ∧ Eff ib S S' ∧ row'.length = n ∧ ∀ x ∈ row', x < m := by
  have hpos : 0 < m := by
    have hr0 : 0 < row.length := by omega
    have := hrr row[0] (List.getElem_mem hr0)
    omega
  obtain ⟨x, S1, a1, a2, a3⟩ := eval_take hP (many := (n : Int)) (by omega) (by omega)
  obtain ⟨v, S2, b1, b2, b3⟩ := eval_take a2.at_ (many := (m : Int)) (by omega) (by omega)
  have hx : x < row.length := by omega
  have hxm : row[x]! < m := by rw [getElem!_pos row x hx]; exact hrr _ (List.getElem_mem _)
  have hvm : v < m := by omega
  let oth : List Nat := row.take x ++ [v] ++ row.drop (x + 1)
  have hol : oth.length = n := by
    show (row.take x ++ [v] ++ row.drop (x + 1)).length = n
    simp; omega
  have hor : ∀ y ∈ oth, y < m := fun y hy => by
    rcases List.mem_append.mp hy with h | h
    · rcases List.mem_append.mp h with h | h'
      · exact hrr y (List.mem_of_mem_take h)
      · rw [List.mem_singleton.mp h']; exact hvm
    · exact hrr y (List.mem_of_mem_drop h)
  have other : zOp dAdd (zOp dAdd (zSl (zVar 3) zNoPart (zPart (zVar 7))) (zTup (zCons (zVar 8) zNil))) (zSl (zVar 3) (zPart (zOp dAdd (zVar 7) (zC (.int 1)))) zNoPart) (vE ib n m w w2 nm nm2 row up t (some (dN x)) (some (dN v)) o0 e0) S2 = .ok (rwD oth) S2 := by
    have k1 := cut_take (row.map dN) (v := x) (by simp; omega)
    have k2 := cut_drop (row.map dN) (v := x + 1) (by simp; omega)
    have s1 : zSl (zVar 3) zNoPart (zPart (zVar 7)) (vE ib n m w w2 nm nm2 row up t (some (dN x)) (some (dN v)) o0 e0) S2 = .ok (.tup ((row.map dN).take x)) S2 := by
      simp only [zSl, zVar, vE, List.getElem?_cons_succ, List.getElem?_cons_zero, Rs.bnd_ok, zNoPart, zPart, dN, rwD, dSl, k1]
    have s2 : zSl (zVar 3) (zPart (zOp dAdd (zVar 7) (zC (.int 1)))) zNoPart (vE ib n m w w2 nm nm2 row up t (some (dN x)) (some (dN v)) o0 e0) S2 = .ok (.tup ((row.map dN).drop (x + 1))) S2 := by
      have : ((x : Int) + 1) = ((x + 1 : Nat) : Int) := by simp
      simp only [zSl, zOp, zC, zVar, vE, List.getElem?_cons_succ, List.getElem?_cons_zero, Rs.bnd_ok, zNoPart, zPart, dN, ev_add, this, rwD, dSl, k2]
    refine op_n (op_n s1 (tup_n (one_n rfl) (by simp [bigN])) (tups_add (by simp; unfold bigN; omega) S2)) s2 ((tups_add (by simp; unfold bigN; omega) S2).trans ?_)
    show Rs.ok (D.tup _) S2 = Rs.ok (D.tup ((row.take x ++ [v] ++ row.drop (x + 1)).map dN)) S2
    rw [List.map_append, List.map_append, List.map_take, List.map_drop]
    rfl
  have ends : ∃ p q, p < m ∧ q < m ∧ zOp dIx (zLst (zCons (zLst (zCons (zVar 8) (zCons (zOp dIx (zVar 3) (zVar 7)) zNil))) (zCons (zLst (zCons (zOp dIx (zVar 3) (zVar 7)) (zCons (zVar 8) zNil))) zNil))) (zCall dInt (zCons (zVar 4) zNil)) (vE ib n m w w2 nm nm2 row up t (some (dN x)) (some (dN v)) (some (rwD oth)) e0) S2 = .ok (.lst [dN p, dN q]) S2 := by
    have e3 : zLst (zCons (zLst (zCons (zVar 8) (zCons (zOp dIx (zVar 3) (zVar 7)) zNil))) (zCons (zLst (zCons (zOp dIx (zVar 3) (zVar 7)) (zCons (zVar 8) zNil))) zNil)) (vE ib n m w w2 nm nm2 row up t (some (dN x)) (some (dN v)) (some (rwD oth)) e0) S2 = .ok (.lst [.lst [dN v, dN row[x]!], .lst [dN row[x]!, dN v]]) S2 := lst2_n (lst2_n rfl (rwI_at rfl rfl hx)) (lst2_n (rwI_at rfl rfl hx) rfl)
    cases up with
    | false => exact ⟨v, row[x]!, hvm, hxm, op_n (d1 := .int 0) e3 (call_n (one_n rfl) (int_b false S2)) rfl⟩
    | true => exact ⟨row[x]!, v, hxm, hvm, op_n (d1 := .int 1) e3 (call_n (one_n rfl) (int_b true S2)) rfl⟩
  obtain ⟨p, q, hp, hq, en⟩ := ends
  obtain ⟨b, hb⟩ := eval_rises (w := w) (nm := nm) (w2 := w2) (nm2 := nm2) hn hol hor S2
  have c1 : zTru (zCallF 3 F__law_leq (zCons (zVar 2) (zCons (zOp dIx (zVar 10) (zC (.int 0))) (zCons (zOp dIx (zVar 10) (zC (.int 1))) zNil)))) (vE ib n m w w2 nm nm2 row up t (some (dN x)) (some (dN v)) (some (rwD oth)) (some (.lst [dN p, dN q]))) S2 = .ok (lq w2 p q) S2 := truB_n (callF3 rfl (op_n (d1 := .int 0) rfl rfl rfl) (op_n (d1 := .int 1) rfl rfl rfl) (eval_leq hp hq S2))
  have c2 : zTru (zCallF 3 F__law_rises (zCons (zVar 1) (zCons (zVar 2) (zCons (zVar 9) zNil)))) (vE ib n m w w2 nm nm2 row up t (some (dN x)) (some (dN v)) (some (rwD oth)) (some (.lst [dN p, dN q]))) S2 = .ok b S2 := truB_n (callF3 rfl rfl rfl hb)
  have pre : ∀ r : Ss, (zIfS (zAnd (zTru (zCallF 3 F__law_leq (zCons (zVar 2) (zCons (zOp dIx (zVar 10) (zC (.int 0))) (zCons (zOp dIx (zVar 10) (zC (.int 1))) zNil))))) (zTru (zCallF 3 F__law_rises (zCons (zVar 1) (zCons (zVar 2) (zCons (zVar 9) zNil)))))) (zSet 3 (zVar 9)) zNext) (vE ib n m w w2 nm nm2 row up t (some (dN x)) (some (dN v)) (some (rwD oth)) (some (.lst [dN p, dN q]))) S2 = r → mvB (vE ib n m w w2 nm nm2 row up t x0 v0 o0 e0) S = r := fun r h => by
    unfold mvB
    refine seq_n (env' := vE ib n m w w2 nm nm2 row up t (some (dN x)) v0 o0 e0) (S' := S1) (set_n (callF2 rfl rfl a1)) ?_
    refine seq_n (env' := vE ib n m w w2 nm nm2 row up t (some (dN x)) (some (dN v)) o0 e0) (S' := S2) (set_n (callF2 rfl (sp_on rfl) b1)) ?_
    exact seq_n (set_n other) (seq_n (set_n en) h)
  cases hl : lq w2 p q with
  | false =>
    rw [hl] at c1
    exact ⟨S2, row, _, _, _, _, pre _ (if_f (and_f c1) rfl), a2.trans b2, hrl, hrr⟩
  | true =>
    rw [hl] at c1
    cases b with
    | false => exact ⟨S2, row, _, _, _, _, pre _ (if_f (and_n c1 c2) rfl), a2.trans b2, hrl, hrr⟩
    | true => exact ⟨S2, oth, _, _, _, _, pre _ (if_t (and_n c1 c2) (set_n rfl)), a2.trans b2, hol, hor⟩
theorem eval_moved {S : Sto} {d1 d2 r : D} {up : Bool} (hP : PoolAt ib S) (hn : n ≤ 64) (hm : m ≤ 64) (h1 : SpOk n d1) (h2 : SpOk m d2) (h3 : RwOk n m r) : ∃ d S', F__law_moved [.ptr ib, d1, d2, r, .bl up] S = .ok d S' ∧ Eff ib S S' ∧ RwOk n m d := by
  obtain ⟨w, nm, hnl, hnr, rfl⟩ := h1
  obtain ⟨w2, nm2, _, _, rfl⟩ := h2
  obtain ⟨row, hrl, hrr, rfl⟩ := h3
  obtain ⟨k, S1, a1, a2, a3⟩ := eval_take hP (many := 8) (by decide) (by decide)
  have fin : ∀ (N : Nat), (0 < n ∨ N = 0) → N ≤ 64 → zRange1 (zCons (zOp dMul (zCallF 2 F__law_take (zCons (zVar 0) (zCons (zC (.int 8)) zNil))) (zCall dInt (zCons (zOp dGt (zVar 5) (zC (.int 0))) zNil))) zNil) (vE ib n m w w2 nm nm2 row up none none none none none) S = .ok ⟨(List.range N).map dN, none⟩ S1 → ∃ d S', F__law_moved [.ptr ib, spD n w nm, spD m w2 nm2, rwD row, .bl up] S = .ok d S' ∧ Eff ib S S' ∧ RwOk n m d := by
    intro N hN hN2 hr
    obtain ⟨env', T', ⟨row', t, x, v, o, e, rfl, hE, q1, q2⟩, q⟩ := loop_n (N := N) (b := mvB) (g := zgName 6) (P := fun _ env T => ∃ (row : List Nat) (t x v o e : Option D), env = vE ib n m w w2 nm nm2 row up t x v o e ∧ Eff ib S T ∧ row.length = n ∧ ∀ x ∈ row, x < m) ((List.range N).map dN) (by
      rintro i env T hi ⟨row1, t, x, v, o, e, rfl, hE, q1, q2⟩
      obtain ⟨S', row', x', v', o', e', s1, s2, s3, s4⟩ := mv_step (w := w) (w2 := w2) (nm := nm) (nm2 := nm2) (up := up) (t := some (dN i)) (x0 := x) (v0 := v) (o0 := o) (e0 := e) hE.at_ hn hm q1 q2 (by omega)
      exact ⟨vE ib n m w w2 nm nm2 row1 up (some (dN i)) x v o e, _, S', rfl, s1, row', _, _, _, _, _, rfl, hE.trans s2, s3, s4⟩) N 0 (vE ib n m w w2 nm nm2 row up none none none none none) S1 (by omega) ⟨row, _, _, _, _, _, rfl, a2, hrl, hrr⟩
    rw [← List.range_eq_range'] at q
    refine ⟨rwD row', T', Fof_eff0 ?_ hE (cl_rw _), hE, ⟨row', q1, q2, rfl⟩⟩
    rw [run_moved_eq]
    refine seq_n (env' := vE ib n m w w2 nm nm2 row up none none none none none) (S' := S) (set_n ((lenT_n rfl).trans (by rw [List.length_map, hrl]))) ?_
    exact seq_n (zFor_n hr q) (ret_n rfl)
  have gt : zCall dInt (zCons (zOp dGt (zVar 5) (zC (.int 0))) zNil) (vE ib n m w w2 nm nm2 row up none none none none none) S1 = .ok (.int (if decide (0 < (n : Int)) then 1 else 0)) S1 := call_n (one_n (op_n (d := dN n) (d1 := .int 0) rfl rfl (ev_gt _ _ _))) (int_b _ _)
  have mul : zOp dMul (zCallF 2 F__law_take (zCons (zVar 0) (zCons (zC (.int 8)) zNil))) (zCall dInt (zCons (zOp dGt (zVar 5) (zC (.int 0))) zNil)) (vE ib n m w w2 nm nm2 row up none none none none none) S = .ok (.int ((k : Int) * (if decide (0 < (n : Int)) then 1 else 0))) S1 := op_n (callF2 rfl rfl a1) gt (by rw [ev_mul, if_pos (.inl ⟨by omega, by omega⟩)])
  by_cases h0 : 0 < n
  · refine fin k (.inl h0) (by omega) ?_
    rw [zRange1, one_n mul]
    have : ((k : Int) * (if decide (0 < (n : Int)) = true then 1 else 0)) = (k : Int) := by
      rw [if_pos (decide_eq_true (by omega))]; simp
    simp only [Rs.bnd_ok, this]
    rw [if_pos ⟨by omega, by omega⟩, rangeD_n]
  · refine fin 0 (.inr rfl) (by omega) ?_
    rw [zRange1, one_n mul]
    have : ((k : Int) * (if decide (0 < (n : Int)) = true then 1 else 0)) = 0 := by
      rw [if_neg (by simp; omega)]; simp
    simp only [Rs.bnd_ok, this]
    rfl
end
/-! ### the pool's making, sizes -/
theorem eval_pool {ns : List Int} (h : ns.length ≤ 63) : ∃ S', F__law_pool [.rol ns] [] = .ok (.ptr 0) S' ∧ PoolAt 0 S' := by
  have loop : ∀ (xs L : List Int) (sd : Int) (c : Option D), ∃ sd' c', forL ⟨xs.map D.int, none⟩ (zgName 2) (zSet 1 (zOp dMod (zCall dInt (zCons (zOp dAdd (zOp dMul (zVar 1) (zC (.int 1000003))) (zVar 2)) zNil)) (zC (.int 2305843009213693951)))) (L.map D.int) [some (.rol ns), some (.int sd), c] [] = .mk (.next [some (.rol ns), some (.int sd'), c']) [] := by
    intro xs L
    induction L with
    | nil => intro sd c; exact ⟨sd, c, by rw [List.map_nil, forL_nil rfl]⟩
    | cons a L ih =>
      intro sd c
      obtain ⟨sd', c', e⟩ := ih ((sd * 1000003 + a) % 2305843009213693951) (some (.int a))
      refine ⟨sd', c', ?_⟩
      rw [List.map_cons, forL_cons (env1 := [some (.rol ns), some (.int sd), some (.int a)]) rfl rfl]
      have : zSet 1 (zOp dMod (zCall dInt (zCons (zOp dAdd (zOp dMul (zVar 1) (zC (.int 1000003))) (zVar 2)) zNil)) (zC (.int 2305843009213693951))) [some (.rol ns), some (.int sd), some (.int a)] [] = .mk (.next [some (.rol ns), some (.int ((sd * 1000003 + a) % 2305843009213693951)), some (.int a)]) [] := by
        refine set_n (op_n (d := .int (sd * 1000003 + a)) (d1 := .int 2305843009213693951) (call_n (one_n (op_n (op_n (d := .int sd) (d1 := .int 1000003) rfl rfl (by rw [ev_mul, if_pos (.inr ⟨by decide, by decide⟩)])) rfl (ev_add _ _ _))) rfl) rfl ?_)
        rw [ev_mod, if_pos (by decide)]
      rw [this, Ss.turn_next]
      exact e
  obtain ⟨sd, c, e⟩ := loop ns ns 7 none
  refine ⟨[poolC ns 0 0 0 false sd 0], Fof_grow (S1 := [poolC ns 0 0 0 false sd 0]) ?_ (Nat.lt_irrefl _), _, rfl, ns, 0, 0, 0, false, sd, 0, rfl⟩
  unfold run__law_pool
  refine seq_n (env' := [some (.rol ns), some (.int 7), none]) (S' := []) (set_n rfl) ?_
  refine seq_n (zFor_n (S1 := []) (gd := none) (xs := ns.map D.int) rfl e) ?_
  refine ret_n ?_
  have : (zdCons (zCall dList (zCons (zVar 0) zNil)) (zdCons (zC (.int 0)) (zdCons (zC (.int 0)) (zdCons (zC (.int 0)) (zdCons (zC (.bl false)) (zdCons (zVar 1) (zdCons (zC (.int 0)) zNil))))))) [some (.rol ns), some (.int sd), c] [] = .ok [.lst (ns.map D.int), .int 0, .int 0, .int 0, .bl false, .int sd, .int 0] [] :=
    zd_n (call_n (one_n rfl) rfl) (zd_n rfl (zd_n rfl (zd_n rfl (zd_n rfl (zd_n rfl (zd_n rfl nil_n))))))
  simp [zDict, this, Mk.resD, poolC]
end K10

namespace K10
open PySem L2 Z K06 K07
open PySem.Spec PyProof.Rows
variable [Tabs]
theorem rngS {a : EM D} {env : En} {T T1 : Sto} {n : Nat} (hn : n ≤ 4096) (h : a env T = .ok (dN n) T1) : zRange1 (zCons a zNil) env T = .ok ⟨(List.range n).map dN, none⟩ T1 := by
  rw [zRange1, one_n h]
  simp only [Rs.bnd_ok, dN]
  rw [if_pos ⟨by omega, by omega⟩, rangeD_n]
theorem add_N (a b : Nat) (S : Sto) : dAdd (dN a) (dN b) S = .ok (dN (a + b)) S := by
  show Rs.ok (D.int ((a : Int) + (b : Int))) S = _
  rw [dN, Int.natCast_add]
theorem nats_of {Q : Nat → Prop} : ∀ ds : List D, (∀ d ∈ ds, ∃ s, d = dN s ∧ Q s) → ∃ ss : List Nat, ds = ss.map dN ∧ ∀ s ∈ ss, Q s
  | [], _ => ⟨[], rfl, fun _ h => nomatch h⟩
  | d :: ds, h => by
    obtain ⟨s, rfl, q⟩ := h d List.mem_cons_self
    obtain ⟨ss, rfl, q2⟩ := nats_of ds fun e he => h e (List.mem_cons_of_mem _ he)
    exact ⟨s :: ss, rfl, fun t ht => (List.mem_cons.mp ht).elim (fun e => e ▸ q) (q2 t)⟩
def SzOk (sz : List Nat) : Prop := sz.length = 4 ∧ (∀ s ∈ sz, s ≤ 7) ∧ (∀ k, k < 3 → 0 < sz[k]! → 0 < sz[k + 1]!) ∧ 0 < sz[3]!
theorem sz_cut {a b c d z : Nat} (h : (1 ≤ a ∧ a ≤ 7) ∧ (1 ≤ b ∧ b ≤ 7) ∧ (1 ≤ c ∧ c ≤ 7) ∧ (1 ≤ d ∧ d ≤ 7)) (hz : z ≤ 3) : SzOk (List.replicate z 0 ++ [a, b, c, d].drop z) := by
  obtain ⟨ha, hb, hc, hd⟩ := h
  have e : z = 0 ∨ z = 1 ∨ z = 2 ∨ z = 3 := by omega
  have q : ∀ {l : List Nat} {P : Nat → Prop}, (∀ s ∈ l, P s) ↔ l.all (fun s => true) = true ∧ ∀ s ∈ l, P s := by intro l P; simp
  rcases e with rfl | rfl | rfl | rfl
  all_goals
    refine ⟨rfl, fun s hs => ?_, fun k hk h0 => ?_, ?_⟩
    · simp at hs
      omega
    · have hk' : k = 0 ∨ k = 1 ∨ k = 2 := by omega
      rcases hk' with rfl | rfl | rfl <;> simp at h0 ⊢ <;> omega
    · simp; omega
section
variable {ib : Nat} {S : Sto}
theorem eval_sizes (hP : PoolAt ib S) : ∃ sz S', F__law_sizes [.ptr ib] S = .ok (.lst (sz.map dN)) S' ∧ Eff ib S S' ∧ SzOk sz := by
  obtain ⟨ds, S1, e1, e2, e3, e4⟩ := lcA_any (xs := (List.range 4).map dN) (mk := dN) (g := zgName 2) (ft := zYes) (fe := zOp dAdd (zC (.int 1)) (zCallF 2 F__law_take (zCons (zVar 0) (zCons (zC (.int 7)) zNil)))) (env := [some (.ptr ib), none, none]) (P := fun T => Eff ib S T) (V := fun _ d => ∃ s, d = dN s ∧ 1 ≤ s ∧ s ≤ 7) (List.range 4) [] S (Eff.rfl' hP) (by decide) (by
    intro a _ T hT
    obtain ⟨k, T', h1, h2, h3⟩ := eval_take hT.at_ (many := 7) (by decide) (by decide)
    exact ⟨[some (.ptr ib), none, some (dN a)], dN (1 + k), T', rfl, rfl, op_n (d := .int 1) (d1 := dN k) rfl (callF2 rfl rfl h1) ((ev_add _ _ _).trans (by rw [dN]; simp [Int.natCast_add])), ⟨1 + k, rfl, by omega, by omega⟩, hT.trans h2⟩)
  rw [List.nil_append] at e1
  have hl : ds.length = 4 := e3
  obtain ⟨ss, rfl, hss⟩ := nats_of (Q := fun s => 1 ≤ s ∧ s ≤ 7) ds (fun d hd => by
    obtain ⟨i, hid, rfl⟩ := List.getElem_of_mem hd
    obtain ⟨d', h1, h2⟩ := e4 i i (by rw [List.getElem?_range (by omega)])
    rw [List.getElem?_eq_getElem hid] at h1
    cases h1
    exact h2)
  rw [List.length_map] at hl
  obtain ⟨a, b, c, d, rfl⟩ : ∃ a b c d, ss = [a, b, c, d] := by
    match ss, hl with
    | [a, b, c, d], _ => exact ⟨a, b, c, d, rfl⟩
  have hq : (1 ≤ a ∧ a ≤ 7) ∧ (1 ≤ b ∧ b ≤ 7) ∧ (1 ≤ c ∧ c ≤ 7) ∧ (1 ≤ d ∧ d ≤ 7) := ⟨hss a (by simp), hss b (by simp), hss c (by simp), hss d (by simp)⟩
  obtain ⟨t, S2, g1, g2, g3⟩ := eval_take e2.at_ (many := 8) (by decide) (by decide)
  have mk : zLcK .cel [2] (zRange1 (zCons (zC (.int 4)) zNil)) (zgName 2) zYes (zOp dAdd (zC (.int 1)) (zCallF 2 F__law_take (zCons (zVar 0) (zCons (zC (.int 7)) zNil)))) [some (.ptr ib), none, none] S = .ok (.ptr S1.length) (S1 ++ [.lst ([a, b, c, d].map dN)]) := by
    rw [zLcK, rng1 (n := 4) (by decide) rfl, Rs.bnd_ok]
    show ((lcA _ _ _ _ [some (.ptr ib), none, none] _ _ _).bnd _) = _
    rw [e1]; rfl
  have fin : ∀ (z : Nat) (S3 : Sto) (env : En), z ≤ 3 → Eff ib S S3 → run__law_sizes (startE N__law_sizes [.ptr ib]) S = .mk (.ret (.ptr S3.length)) (S3 ++ [.lst ((List.replicate z 0 ++ [a, b, c, d].drop z).map dN)]) → ∃ sz S', F__law_sizes [.ptr ib] S = .ok (.lst (sz.map dN)) S' ∧ Eff ib S S' ∧ SzOk sz := fun z S3 env hz hE h =>
    ⟨_, S3, Fof_eff (L := [.lst ((List.replicate z 0 ++ [a, b, c, d].drop z).map dN)]) (L' := [.gone]) h frz_one hE (cl_D_N _ _), hE, sz_cut hq hz⟩
  obtain ⟨t, S2', g1, g2, g3⟩ := eval_take (PoolAt.app e2.at_ [.lst ([a, b, c, d].map dN)]) (many := 8) (by decide) (by decide)
  obtain ⟨S2, rfl, g4⟩ := g2.split (PoolAt.lt e2.at_)
  have c0 : zB (zOp dEq (zCallF 2 F__law_take (zCons (zVar 0) (zCons (zC (.int 8)) zNil))) (zC (.int 0))) [some (.ptr ib), some (.ptr S1.length), none] (S1 ++ [.lst ([a, b, c, d].map dN)]) = .ok (decide (t = 0)) (S2 ++ [.lst ([a, b, c, d].map dN)]) := b_n (op_n (d := dN t) (d1 := dN 0) (callF2 rfl rfl g1) rfl (eq_N _ _ _))
  by_cases ht : t = 0
  · rw [decide_eq_true ht] at c0
    obtain ⟨u, S3', h1, h2, h3⟩ := eval_take (PoolAt.app g4.at_ [.lst ([a, b, c, d].map dN)]) (many := 3) (by decide) (by decide)
    obtain ⟨S3, rfl, h4⟩ := h2.split (PoolAt.lt g4.at_)
    have hlen : S3.length = S1.length := h4.len.trans g4.len
    obtain ⟨env', T', ⟨x, rfl, rfl⟩, q⟩ := loop_n (N := 1 + u) (b := zPut (zVar 1) (zVar 2) (zC (.int 0))) (g := zgName 2) (P := fun k env T => ∃ x, env = [some (.ptr ib), some (.ptr S1.length), x] ∧ T = S3 ++ [.lst ((List.replicate k 0 ++ [a, b, c, d].drop k).map dN)]) ((List.range (1 + u)).map dN) (by
      rintro k env T hk ⟨x, rfl, rfl⟩
      refine ⟨[some (.ptr ib), some (.ptr S1.length), some (dN k)], _, _, rfl, putL_n (d := .int 0) (d1 := .ptr S1.length) (d2 := dN k) (S4 := S3 ++ [.lst ((List.replicate (k + 1) 0 ++ [a, b, c, d].drop (k + 1)).map dN)]) rfl rfl rfl ?_, ⟨_, rfl, rfl⟩⟩
      have hk3 : k < 3 := by omega
      have g0 : (S3 ++ [C.lst ((List.replicate k 0 ++ [a, b, c, d].drop k).map dN)])[S1.length]? = some (.lst ((List.replicate k 0 ++ [a, b, c, d].drop k).map dN)) := by rw [← hlen, List.getElem?_append_right (Nat.le_refl _)]; simp
      have gl : ((List.replicate k 0 ++ [a, b, c, d].drop k).map dN).length = 4 := by simp; omega
      unfold stSet
      simp only [dN, g0, gl, ixNn (show k < 4 by omega)]
      rw [← hlen, List.set_append_right _ _ (Nat.le_refl _), Nat.sub_self, List.set_cons_zero]
      congr 4
      have hk' : k = 0 ∨ k = 1 ∨ k = 2 := by omega
      rcases hk' with rfl | rfl | rfl <;> rfl) (1 + u) 0 [some (.ptr ib), some (.ptr S1.length), none] (S3 ++ [.lst ([a, b, c, d].map dN)]) (by omega) ⟨none, rfl, rfl⟩
    rw [← List.range_eq_range'] at q
    refine fin (1 + u) S3 [] (by omega) (e2.trans (g4.trans h4)) ?_
    unfold run__law_sizes
    refine seq_n (env' := [some (.ptr ib), some (.ptr S1.length), none]) (set_n mk) ?_
    exact seq_n (if_t c0 (zFor_n (rngS (n := 1 + u) (by omega) (op_n (d := dN 1) (d1 := dN u) rfl (callF2 rfl rfl h1) (add_N _ _ _))) q)) (ret_n (by rw [hlen]; rfl))
  · rw [decide_eq_false ht] at c0
    refine fin 0 S2 [] (by omega) (e2.trans g4) ?_
    unfold run__law_sizes
    refine seq_n (env' := [some (.ptr ib), some (.ptr S1.length), none]) (set_n mk) ?_
    exact seq_n (if_f c0 rfl) (ret_n (by rw [g4.len]; rfl))
end
end K10

namespace K09
open PySem L2 Z K06 K10
open PySem.Spec PyProof.Rows
variable [Tabs]
abbrev N_falling_pair : List Str := ["first", "higher", "row", "x", "y"]
noncomputable def run_falling_pair : SM :=
    (zSeq (zFor (zSrc (zOp dIx (zVar 0) (zC (.int 1)))) (zgTup 2 (zgCons (zgName 3) (zgCons (zgName 4) zgNil))) (zIfS (zNot (zTru (zOp dAnd (zOp dShr (zOp dIx (zVar 1) (zOp dIx (zVar 2) (zVar 3))) (zOp dIx (zVar 2) (zVar 4))) (zC (.int 1))))) (zRet (zTup (zCons (zVar 3) (zCons (zVar 4) zNil)))) zNext))
    (zRet (zC .non)))
noncomputable def F_falling_pair : List D → Sto → Rs D := Fof 0 N_falling_pair run_falling_pair
abbrev N__law_due : List Str := ["first", "second", "row", "x", "y"]
noncomputable def run__law_due : SM :=
    (zSeq (zFor (zSrc (zOp dIx (zOp dGetD (zVar 0) (zC (.str "order"))) (zC (.int 1)))) (zgTup 2 (zgCons (zgName 3) (zgCons (zgName 4) zgNil))) (zIfS (zNot (zTru (zCallF 3 F__law_leq (zCons (zVar 1) (zCons (zOp dIx (zVar 2) (zVar 3)) (zCons (zOp dIx (zVar 2) (zVar 4)) zNil)))))) (zRet (zTup (zCons (zC (.str "bad")) (zCons (zTup (zCons (zVar 3) (zCons (zVar 4) zNil))) zNil)))) zNext))
    (zRet (zTup (zCons (zC (.str "told")) (zCons (zC .non) zNil)))))
noncomputable def F__law_due : List D → Sto → Rs D := Fof 0 N__law_due run__law_due
abbrev N__law_changed : List Str := ["pool", "row", "many", "m", "other", "k"]
noncomputable def run__law_changed : SM :=
    (zSeq (zSet 4 (zCall dListC (zCons (zVar 1) zNil)))
    (zSeq (zFor (zRange1 (zCons (zOp dMul (zVar 2) (zCall dInt (zCons (zOp dGt (zCall dLen (zCons (zVar 1) zNil)) (zC (.int 0))) zNil))) zNil)) (zgName 5) (zPut (zVar 4) (zCallF 2 F__law_take (zCons (zVar 0) (zCons (zCall dLen (zCons (zVar 1) zNil)) zNil))) (zCallF 2 F__law_take (zCons (zVar 0) (zCons (zVar 3) zNil)))))
    (zRet (zCall dTuple (zCons (zVar 4) zNil)))))
noncomputable def F__law_changed : List D → Sto → Rs D := Fof 0 N__law_changed run__law_changed
abbrev N__law_forms : List Str := ["pool", "row", "m", "found", "at", "odds", "odd"]
noncomputable def run__law_forms : SM :=
    (zSeq (zSet 3 (zLstC (zCons (zC .non) (zCons (zC (.str "")) (zCons (zC (.str "0")) (zCons (zC (.int 0)) (zCons (zCall dLen (zCons (zVar 1) zNil)) (zCons (zOp dAdd (zVar 1) (zTup (zCons (zC (.int 0)) zNil))) (zCons (zTup (zCons (zVar 1) zNil)) (zCons (zTup (zCons (zVar 1) (zCons (zVar 1) zNil))) (zCons (zOp dAdd (zOp dAdd (zVar 1) (zVar 1)) (zTup (zCons (zC (.int 0)) zNil))) zNil)))))))))))
    (zSeq (zIfS (zB (zOp dEq (zCall dLen (zCons (zVar 1) zNil)) (zC (.int 0)))) (zRet (zVar 3)) zNext)
    (zSeq (zSet 4 (zCallF 2 F__law_take (zCons (zVar 0) (zCons (zCall dLen (zCons (zVar 1) zNil)) zNil))))
    (zSeq (zSet 5 (zLst (zCons (zVar 2) (zCons (zOp dAdd (zOp dAdd (zVar 2) (zC (.int 1))) (zCallF 2 F__law_take (zCons (zVar 0) (zCons (zC (.int 1000)) zNil)))) (zCons (zUn dNeg (zC (.int 1))) (zCons (zOp dSub (zUn dNeg (zC (.int 1))) (zCallF 2 F__law_take (zCons (zVar 0) (zCons (zC (.int 1000)) zNil)))) (zCons (zOp dPow (zC (.int 10)) (zC (.int 59))) (zCons (zOp dSub (zC (.int 1)) (zOp dPow (zC (.int 10)) (zC (.int 59)))) zNil))))))))
    (zSeq (zFor (zSrc (zOp dAdd (zVar 5) (zLst (zCons (zC .non) (zCons (zC (.str "0")) (zCons (zC (.str "")) (zCons (zTup zNil) (zCons (zTup (zCons (zC (.int 0)) zNil)) (zCons (zSl (zVar 1) (zPart (zVar 4)) (zPart (zOp dAdd (zVar 4) (zC (.int 1))))) zNil))))))))) (zgName 6) (zExpr (zMethL dAppend (zVar 3) (zCons (zOp dAdd (zOp dAdd (zSl (zVar 1) zNoPart (zPart (zVar 4))) (zTup (zCons (zVar 6) zNil))) (zSl (zVar 1) (zPart (zOp dAdd (zVar 4) (zC (.int 1)))) zNoPart)) zNil))))
    (zRet (zOp dAdd (zVar 3) (zLst (zCons (zTup zNil) (zCons (zSl (zVar 1) (zPart (zC (.int 1))) zNoPart) (zCons (zSl (zVar 1) zNoPart (zPart (zUn dNeg (zC (.int 1))))) zNil)))))))))))
noncomputable def F__law_forms : List D → Sto → Rs D := Fof 1 N__law_forms run__law_forms
abbrev N_has_row_form : List Str := ["first", "second", "row", "value"]
noncomputable def run_has_row_form : SM :=
    (zSeq (zIfS (zOr (zNot (zTru (zIsi ["tuple"] (zVar 2)))) (zB (zOp dNe (zCall dLen (zCons (zVar 2) zNil)) (zOp dIx (zVar 0) (zC (.int 0)))))) (zRet (zC (.bl false))) zNext)
    (zRet (zQG true [3] (zSrc (zVar 2)) (zgName 3) zYes (zAndV (zIsi ["int"] (zVar 3)) (zChain dLe dLt (zC (.int 0)) (zVar 3) (zOp dIx (zVar 1) (zC (.int 0))))))))
noncomputable def F_has_row_form : List D → Sto → Rs D := Fof 0 N_has_row_form run_has_row_form
abbrev N_check_map : List Str := ["first", "second", "row", "pair"]
noncomputable def run_check_map : SM :=
    (zSeq (zIfS (zNot (zTru (zCallF 3 F_has_row_form (zCons (zVar 0) (zCons (zVar 1) (zCons (zVar 2) zNil)))))) (zRaise1 "BadMap" "pair" (zC .non)) zNext)
    (zSeq (zSet 3 (zCallF 3 F_falling_pair (zCons (zVar 0) (zCons (zCallF 1 F_with_selves (zCons (zCallF 1 F_masks_above (zCons (zVar 1) zNil)) zNil)) (zCons (zVar 2) zNil)))))
    (zIfS (zB (zOp dIsNot (zVar 3) (zC .non))) (zRaise1 "BadMap" "pair" (zVar 3)) zNext)))
noncomputable def F_check_map : List D → Sto → Rs D := Fof 0 N_check_map run_check_map
abbrev N__law_asked : List Str := ["first", "second", "row", "named", "e"]
noncomputable def run__law_asked : SM :=
    (zSeq (zTryAs 4 [("BadMap", true)] (zSeq (zIfS (zTru (zVar 3)) (zRet (zTup (zCons (zC (.str "told")) (zCons (zCallK 3 F_check_map [2, 1, 0] zNil (zCons (zVar 2) (zCons (zOp dGetD (zVar 1) (zC (.str "order"))) (zCons (zOp dGetD (zVar 0) (zC (.str "order"))) zNil)))) zNil)))) zNext)
    (zRet (zTup (zCons (zC (.str "told")) (zCons (zCallF 3 F_check_map (zCons (zOp dGetD (zVar 0) (zC (.str "order"))) (zCons (zOp dGetD (zVar 1) (zC (.str "order"))) (zCons (zVar 2) zNil)))) zNil))))) (fun xv => (zIfS (zAnd (zTru (zXis [("BadMap", true)] xv)) (zTru (zXis [("BadMap", true)] xv))) (zIfS (zNot (zTru (zXis [("BadMap", false)] xv))) (zRet (zTup (zCons (zC (.str "bad")) (zCons (zXf ["BadMap"] "pair" xv) zNil)))) zNext) zNext)))
    (zRet (zTup (zCons (zC (.str "other")) (zCons (zC .non) zNil)))))
noncomputable def F__law_asked : List D → Sto → Rs D := Fof 0 N__law_asked run__law_asked
abbrev N__law_rows_right : List Str := ["pool", "first", "second", "rows", "row", "due"]
noncomputable def run__law_rows_right : SM :=
    (zSeq (zFor (zSrc (zVar 3)) (zgName 4) (zSeq (zSet 5 (zCallF 3 F__law_due (zCons (zVar 1) (zCons (zVar 2) (zCons (zVar 4) zNil)))))
    (zSeq (zIfS (zNot (zTru (zCallF 2 (F__law_same 8) (zCons (zCallF 4 F__law_asked (zCons (zVar 1) (zCons (zVar 2) (zCons (zVar 4) (zCons (zC (.bl false)) zNil))))) (zCons (zVar 5) zNil))))) (zRet (zC (.bl false))) zNext)
    (zIfS (zNot (zTru (zCallF 2 (F__law_same 8) (zCons (zCallF 4 F__law_asked (zCons (zVar 1) (zCons (zVar 2) (zCons (zVar 4) (zCons (zC (.bl true)) zNil))))) (zCons (zVar 5) zNil))))) (zRet (zC (.bl false))) zNext))))
    (zRet (zC (.bl true))))
noncomputable def F__law_rows_right : List D → Sto → Rs D := Fof 0 N__law_rows_right run__law_rows_right
abbrev N__law_forms_right : List Str := ["pool", "first", "second", "rows", "row", "wrong"]
noncomputable def run__law_forms_right : SM :=
    (zSeq (zFor (zSrc (zVar 3)) (zgName 4) (zFor (zSrc (zCallF 3 F__law_forms (zCons (zVar 0) (zCons (zVar 4) (zCons (zOp dIx (zOp dGetD (zVar 2) (zC (.str "order"))) (zC (.int 0))) zNil))))) (zgName 5) (zIfS (zNot (zTru (zCallF 2 (F__law_same 8) (zCons (zCallF 4 F__law_asked (zCons (zVar 1) (zCons (zVar 2) (zCons (zVar 5) (zCons (zOp dEq (zCallF 2 F__law_take (zCons (zVar 0) (zCons (zC (.int 4)) zNil))) (zC (.int 0))) zNil))))) (zCons (zTup (zCons (zC (.str "bad")) (zCons (zC .non) zNil))) zNil))))) (zRet (zC (.bl false))) zNext)))
    (zRet (zC (.bl true))))
noncomputable def F__law_forms_right : List D → Sto → Rs D := Fof 0 N__law_forms_right run__law_forms_right
abbrev N__law_great_right : List Str := ["pool", "n", "first", "second", "m", "row", "j", "x", "rows"]
noncomputable def run__law_great_right : SM :=
    (zSeq (zSet 1 (zOp dAdd (zC (.int 9)) (zCallF 2 F__law_take (zCons (zVar 0) (zCons (zC (.int 56)) zNil)))))
    (zSeq (zSet 2 (zCallF 3 F__law_floors (zCons (zVar 0) (zCons (zVar 1) (zCons (zOp dAdd (zC (.int 1)) (zCallF 2 F__law_take (zCons (zVar 0) (zCons (zVar 1) zNil)))) zNil)))))
    (zSeq (zSet 3 (zCallF 3 F__law_floors (zCons (zVar 0) (zCons (zOp dAdd (zC (.int 1)) (zCallF 2 F__law_take (zCons (zVar 0) (zCons (zC (.int 64)) zNil)))) (zCons (zC (.int 1)) zNil)))))
    (zSeq (zSet 4 (zOp dIx (zOp dGetD (zVar 3) (zC (.str "order"))) (zC (.int 0))))
    (zSeq (zSet 5 (zLcK .cel [7] (zRange1 (zCons (zVar 1) zNil)) (zgName 7) zYes (zC (.int 0))))
    (zSeq (zSet 6 (zC (.int 0)))
    (zSeq (zFor (zSrc (zOp dGetD (zVar 2) (zC (.str "names")))) (zgName 7) (zSeq (zSet 6 (zCall dMin2 (zCons (zOp dSub (zVar 4) (zC (.int 1))) (zCons (zOp dAdd (zCall dInt (zCons (zVar 6) zNil)) (zCallF 2 F__law_take (zCons (zVar 0) (zCons (zC (.int 3)) zNil)))) zNil))))
    (zPut (zVar 5) (zVar 7) (zOp dIx (zOp dGetD (zVar 3) (zC (.str "names"))) (zVar 6)))))
    (zSeq (zSet 8 (zLst (zCons (zCall dTuple (zCons (zVar 5) zNil)) (zCons (zCallF 4 F__law_changed (zCons (zVar 0) (zCons (zVar 5) (zCons (zC (.int 1)) (zCons (zVar 4) zNil))))) (zCons (zCallF 4 F__law_changed (zCons (zVar 0) (zCons (zVar 5) (zCons (zC (.int 2)) (zCons (zVar 4) zNil))))) zNil)))))
    (zRet (zAndV (zCallF 4 F__law_rows_right (zCons (zVar 0) (zCons (zVar 2) (zCons (zVar 3) (zCons (zVar 8) zNil))))) (zCallF 4 F__law_forms_right (zCons (zVar 0) (zCons (zVar 2) (zCons (zVar 3) (zCons (zSl (zVar 8) zNoPart (zPart (zC (.int 1)))) zNil)))))))))))))))
noncomputable def F__law_great_right : List D → Sto → Rs D := Fof 0 N__law_great_right run__law_great_right
abbrev N_law : List Str := ["script", "pool", "first", "second", "n", "m", "row", "rows", "x"]
noncomputable def run_law : SM :=
    (zSeq (zSet 1 (zCallF 1 F__law_pool (zCons (zVar 0) zNil)))
    (zSeq (zIfS (zB (zOp dEq (zCallF 2 F__law_take (zCons (zVar 1) (zCons (zC (.int 8)) zNil))) (zC (.int 0)))) (zRet (zCallF 1 F__law_great_right (zCons (zVar 1) zNil))) zNext)
    (zSeq (zSet 2 (zCallF 2 F__law_drawn (zCons (zVar 1) (zCons (zCallF 2 F__law_take (zCons (zVar 1) (zCons (zC (.int 9)) zNil))) zNil))))
    (zSeq (zSet 3 (zCallF 2 F__law_drawn (zCons (zVar 1) (zCons (zCallF 2 F__law_take (zCons (zVar 1) (zCons (zC (.int 9)) zNil))) zNil))))
    (zSeq (zSet 4 (zOp dIx (zOp dGetD (zVar 2) (zC (.str "order"))) (zC (.int 0))))
    (zSeq (zSet 5 (zOp dIx (zOp dGetD (zVar 3) (zC (.str "order"))) (zC (.int 0))))
    (zSeq (zIfS (zAnd (zB (zOp dEq (zVar 5) (zC (.int 0)))) (zB (zOp dGt (zVar 4) (zC (.int 0))))) (zRet (zCallF 4 F__law_forms_right (zCons (zVar 1) (zCons (zVar 2) (zCons (zVar 3) (zCons (zLst (zCons (zOp dMulT (zTup (zCons (zC (.int 0)) zNil)) (zVar 4)) zNil)) zNil)))))) zNext)
    (zSeq (zSet 6 (zCallF 3 F__law_map (zCons (zVar 1) (zCons (zVar 2) (zCons (zVar 3) zNil)))))
    (zSeq (zSet 7 (zLstC (zCons (zVar 6) (zCons (zCallF 4 F__law_changed (zCons (zVar 1) (zCons (zVar 6) (zCons (zC (.int 1)) (zCons (zVar 5) zNil))))) (zCons (zCallF 4 F__law_changed (zCons (zVar 1) (zCons (zVar 6) (zCons (zC (.int 2)) (zCons (zVar 5) zNil))))) zNil)))))
    (zSeq (zExpr (zMethL dAppend (zVar 7) (zCons (zCall dTuple (zCons (zLcK .frz [8] (zRange1 (zCons (zVar 4) zNil)) (zgName 8) zYes (zCallF 2 F__law_take (zCons (zVar 1) (zCons (zVar 5) zNil)))) zNil)) zNil)))
    (zRet (zAndV (zCallF 4 F__law_rows_right (zCons (zVar 1) (zCons (zVar 2) (zCons (zVar 3) (zCons (zVar 7) zNil))))) (zCallF 4 F__law_forms_right (zCons (zVar 1) (zCons (zVar 2) (zCons (zVar 3) (zCons (zLst (zCons (zVar 6) (zCons (zOp dIx (zVar 7) (zC (.int 3))) zNil))) zNil)))))))))))))))))
noncomputable def F_law : List D → Sto → Rs D := Fof 0 N_law run_law
end K09

namespace K09
open PySem L2 Z K06 K07 K10
open PySem.Spec PyProof.Rows
variable [Tabs]
/-! ### errors: one step at a time -/
section
variable {env env1 : En} {S S1 S' : Sto} {x : XV} {d : D}
theorem raise_n {nm f : Str} {a : EM D} (h : a env S = .ok d S1) : zRaise1 nm f a env S = .mk (.exc ⟨nm, some [(f, d)]⟩ env) S1 := by rw [zRaise1, h]; rfl
theorem seq_x {a b : SM} (h : a env S = .mk (.exc x env1) S') : zSeq a b env S = .mk (.exc x env1) S' := by rw [zSeq, h]; rfl
theorem Fof_exc0 {N : List Str} {run : SM} {ds : List D} {S0 : Sto} (h : run (startE N ds) S0 = .mk (.exc x env) S0) (hc : ∀ fs, x.fs = some fs → ∀ p ∈ fs, D.cl S0.length p.2) : Fof 0 N run ds S0 = .exc x S0 := by
  unfold Fof
  rw [h, finX_eq, if_pos ⟨Nat.le_refl _, hc, fun n c _ e => .inl e⟩, List.take_length]
end
/-! ### the first falling pair -/
def fallF (w2 : Nat → Nat → Int) (row : List Nat) (p : Nat × Nat) : Bool := !lq w2 row[p.1]! row[p.2]!
def optD : Option (Nat × Nat) → D
  | none => .non
  | some p => pD p
theorem cl_opt {k : Nat} (o : Option (Nat × Nat)) : D.cl k (optD o) := by
  cases o with
  | none => trivial
  | some p => exact ⟨clN _ _, clN _ _, trivial⟩
def hiT (m : Nat) (w2 : Nat → Nat → Int) : D := .lst (tab m fun x => upF (canon m (ofW w2)) (fun _ => 0) x ||| 2 ^ x)
theorem hi_bit {m a b : Nat} {w2 : Nat → Nat → Int} {e0 e1 e2 : EM D} {env : En} {S : Sto} (hm : m ≤ 64) (ha : a < m) (hb : b < m) (h0 : e0 env S = .ok (hiT m w2) S) (h1 : e1 env S = .ok (dN a) S) (h2 : e2 env S = .ok (dN b) S) :
    zTru (zOp dAnd (zOp dShr (zOp dIx e0 e1) e2) (zC (.int 1))) env S = .ok (lq w2 a b) S := by
  have q : zOp dShr (zOp dIx e0 e1) e2 env S = .ok (.int (((upF (canon m (ofW w2)) (fun _ => 0) a ||| 2 ^ a : Nat) : Int) / 2 ^ b)) S := by
    refine op_n (op_n h0 h1 (dIx_seq (i := a) rfl (tab_get _ ha))) h2 ?_
    rw [dN, dN, ev_shr, if_pos (by omega)]
    rfl
  refine tru_n (op_n (d1 := .int 1) q rfl rfl) ?_
  show some _ = some _
  congr 1
  rw [and_bit, Nat.testBit_or, Nat.testBit_two_pow, upF_bit]
  unfold lq
  simp only [Nat.zero_testBit, Bool.false_or]
  rw [Bool.or_comm]
  congr 1
  rw [Bool.eq_iff_iff, decide_eq_true_eq, mem_canon]
  exact ⟨fun h => h.2.2, fun h => ⟨ha, hb, h⟩⟩
theorem pairs_src {n : Nat} {P : List (Nat × Nat)} {a : EM D} {env : En} {S : Sto} (h : a env S = .ok (ordD n P) S) : zSrc (zOp dIx a (zC (.int 1))) env S = .ok ⟨P.map pD, none⟩ S := src_t (op_n (d1 := .int 1) h rfl rfl)
section
variable {n m : Nat} {w w2 : Nat → Nat → Int} {row : List Nat}
theorem in_row (hl : row.length = n) (hr : ∀ x ∈ row, x < m) {x : Nat} (hx : x < n) : row[x]! < m := by
  rw [getElem!_pos row x (by omega)]
  exact hr _ (List.getElem_mem _)
theorem eval_fall (hm : m ≤ 64) (hl : row.length = n) (hr : ∀ x ∈ row, x < m) {P : List (Nat × Nat)} (hP : ∀ p ∈ P, p.1 < n ∧ p.2 < n) (S : Sto) :
    F_falling_pair [ordD n P, hiT m w2, rwD row] S = .ok (optD (P.find? (fallF w2 row))) S := by
  refine Fof_ret0 ?_ (cl_opt _)
  have sr := pairs_src (n := n) (P := P) (a := zVar 0) (env := [some (ordD n P), some (hiT m w2), some (rwD row), none, none]) (S := S) rfl
  have go := forL_find (S := S) (s := ⟨P.map pD, none⟩) (p := fallF w2 row) (mk := pD) (w := pD) (g := zgTup 2 (zgCons (zgName 3) (zgCons (zgName 4) zgNil))) (P := fun env => ∃ x y, env = [some (ordD n P), some (hiT m w2), some (rwD row), x, y])
    (b := zIfS (zNot (zTru (zOp dAnd (zOp dShr (zOp dIx (zVar 1) (zOp dIx (zVar 2) (zVar 3))) (zOp dIx (zVar 2) (zVar 4))) (zC (.int 1))))) (zRet (zTup (zCons (zVar 3) (zCons (zVar 4) zNil)))) zNext) rfl P _ ⟨none, none, rfl⟩ (by
      rintro ⟨x, y⟩ hp env ⟨x0, y0, rfl⟩
      obtain ⟨h1, h2⟩ := hP _ hp
      have t := not_n (hi_bit (m := m) (w2 := w2) (S := S) (e0 := zVar 1) (e1 := zOp dIx (zVar 2) (zVar 3)) (e2 := zOp dIx (zVar 2) (zVar 4)) (env := [some (ordD n P), some (hiT m w2), some (rwD row), some (dN x), some (dN y)]) hm (in_row hl hr h1) (in_row hl hr h2) rfl (rwI_at rfl rfl (by omega)) (rwI_at rfl rfl (by omega)))
      exact ⟨_, _, rfl, fun e => if_t (t.trans (congrArg (Rs.ok · S) e)) (ret_n (tup2_n rfl rfl)), fun e => ⟨if_f (t.trans (congrArg (Rs.ok · S) e)) rfl, some (dN x), some (dN y), rfl⟩⟩)
  rcases go with ⟨p, e, h⟩ | ⟨e, env', ⟨x, y, rfl⟩, h⟩
  · rw [e]
    exact seq_r (zFor_n sr h)
  · rw [e]
    exact seq_n (zFor_n sr h) (ret_n rfl)
def dueD : Option (Nat × Nat) → D
  | none => .tup [.str "told", .non]
  | some p => .tup [.str "bad", pD p]
theorem cl_due {k : Nat} (o : Option (Nat × Nat)) : D.cl k (dueD o) := by
  cases o with
  | none => exact ⟨trivial, trivial, trivial⟩
  | some p => exact ⟨trivial, cl_opt (some p), trivial⟩
theorem eval_due {nm nm2 : List Nat} (hl : row.length = n) (hr : ∀ x ∈ row, x < m) (S : Sto) : F__law_due [spD n w nm, spD m w2 nm2, rwD row] S = .ok (dueD ((canon n (ofW w)).find? (fallF w2 row))) S := by
  refine Fof_ret0 ?_ (cl_due _)
  have sr := pairs_src (n := n) (P := canon n (ofW w)) (a := zOp dGetD (zVar 0) (zC (.str "order"))) (env := [some (spD n w nm), some (spD m w2 nm2), some (rwD row), none, none]) (S := S) (sp_o rfl)
  have go := forL_find (S := S) (s := ⟨(canon n (ofW w)).map pD, none⟩) (p := fallF w2 row) (mk := pD) (w := fun p => .tup [.str "bad", pD p]) (g := zgTup 2 (zgCons (zgName 3) (zgCons (zgName 4) zgNil))) (P := fun env => ∃ x y, env = [some (spD n w nm), some (spD m w2 nm2), some (rwD row), x, y])
    (b := zIfS (zNot (zTru (zCallF 3 F__law_leq (zCons (zVar 1) (zCons (zOp dIx (zVar 2) (zVar 3)) (zCons (zOp dIx (zVar 2) (zVar 4)) zNil)))))) (zRet (zTup (zCons (zC (.str "bad")) (zCons (zTup (zCons (zVar 3) (zCons (zVar 4) zNil))) zNil)))) zNext) rfl (canon n (ofW w)) _ ⟨none, none, rfl⟩ (by
      rintro ⟨x, y⟩ hp env ⟨x0, y0, rfl⟩
      obtain ⟨h1, h2, _⟩ := mem_canon.mp hp
      have t := not_n (truB_n (callF3 (F := F__law_leq) (a := zVar 1) (b := zOp dIx (zVar 2) (zVar 3)) (c := zOp dIx (zVar 2) (zVar 4)) (env := [some (spD n w nm), some (spD m w2 nm2), some (rwD row), some (dN x), some (dN y)]) (S := S) rfl (rwI_at rfl rfl (by omega)) (rwI_at rfl rfl (by omega)) (eval_leq (in_row hl hr h1) (in_row hl hr h2) S)))
      exact ⟨_, _, rfl, fun e => if_t (t.trans (congrArg (Rs.ok · S) e)) (ret_n (tup2_n rfl (tup2_n rfl rfl))), fun e => ⟨if_f (t.trans (congrArg (Rs.ok · S) e)) rfl, some (dN x), some (dN y), rfl⟩⟩)
  rcases go with ⟨p, e, h⟩ | ⟨e, env', ⟨x, y, rfl⟩, h⟩
  · rw [e]
    exact seq_r (zFor_n sr h)
  · rw [e]
    exact seq_n (zFor_n sr h) (ret_n (tup2_n rfl rfl))
end
/-! ### the form of a row -/
def Simp : D → Prop
  | .non => True
  | .int _ => True
  | .str _ => True
  | .tup _ => True
  | _ => False
def elB (m : Nat) : D → Bool
  | .int i => decide (0 ≤ i) && decide (i < (m : Int))
  | _ => false
section
variable {n m : Nat}
theorem chain_in {i : Int} {P : List (Nat × Nat)} {env : En} {S : Sto} (h1 : zVar 3 env S = .ok (.int i) S) (h2 : zVar 1 env S = .ok (ordD m P) S) : zChain dLe dLt (zC (.int 0)) (zVar 3) (zOp dIx (zVar 1) (zC (.int 0))) env S = .ok (.bl (decide (0 ≤ i) && decide (i < (m : Int)))) S := by
  have h3 : zOp dIx (zVar 1) (zC (.int 0)) env S = .ok (dN m) S := op_n (d1 := .int 0) h2 rfl rfl
  have h4 : zC (.int 0) env S = .ok (.int 0) S := rfl
  unfold zChain
  rw [h4, Rs.bnd_ok, h1, Rs.bnd_ok]
  show ((Rs.ok (D.bl (decide (0 ≤ i))) S).bnd _) = _
  rw [Rs.bnd_ok]
  cases hd : decide (0 ≤ i) with
  | false => rfl
  | true =>
    simp only [h3, Rs.bnd_ok, Bool.true_and]
    rfl
theorem eval_form {P P2 : List (Nat × Nat)} {ds : List D} (hb : ds.length ≤ bigN) (hs : ∀ d ∈ ds, Simp d) (S : Sto) : F_has_row_form [ordD n P, ordD m P2, .tup ds] S = .ok (.bl (decide (ds.length = n) && ds.all (elB m))) S := by
  refine Fof_ret0 ?_ trivial
  have t1 : zNot (zTru (zIsi ["tuple"] (zVar 2))) [some (ordD n P), some (ordD m P2), some (.tup ds), none] S = .ok false S := rfl
  have t2 := b_n (op_n (lenT_n (xs := ds) (a := zVar 2) (T := S) (T1 := S) (env := [some (ordD n P), some (ordD m P2), some (.tup ds), none]) rfl) (op_n (a := zVar 0) (b := zC (.int 0)) (d1 := .int 0) (o := dIx) rfl rfl rfl) (nq_N ds.length n S))
  have t := or_n t1 t2
  by_cases hl : ds.length = n
  · have t' := t.trans (congrArg (Rs.ok · S) (show (!decide (ds.length = n)) = false by simp [hl]))
    refine seq_n (if_f t' rfl) ?_
    have e := qG_pure (pol := true) (L := ds) (mk := id) (q := elB m) (w := fun d => .bl (elB m d)) (p := fun _ => true) (vs := [3]) (g := zgName 3) (ft := zYes) (fe := zAndV (zIsi ["int"] (zVar 3)) (zChain dLe dLt (zC (.int 0)) (zVar 3) (zOp dIx (zVar 1) (zC (.int 0))))) (fi := zSrc (zVar 2))
      (env := [some (ordD n P), some (ordD m P2), some (.tup ds), none]) (S := S) (S1 := S) (by rw [List.map_id]; exact src_t rfl) hb fun d hd => by
        refine ⟨[some (ordD n P), some (ordD m P2), some (.tup ds), some d], rfl, rfl, fun _ => ⟨?_, rfl⟩⟩
        have sd := hs d hd
        cases d with
        | int i => exact andV_n rfl (chain_in rfl rfl)
        | non => exact andV_f rfl
        | str x => exact andV_f rfl
        | tup xs => exact andV_f rfl
        | bl _ => exact sd.elim
        | lst _ => exact sd.elim
        | ptr _ => exact sd.elim
        | rol _ => exact sd.elim
        | rng _ _ => exact sd.elim
        | ty _ => exact sd.elim
        | rot _ => exact sd.elim
        | dct _ _ => exact sd.elim
    rw [if_pos rfl, filter_tt] at e
    rw [decide_eq_true hl, Bool.true_and]
    exact ret_n e
  · rw [decide_eq_false hl, Bool.false_and]
    have t' := t.trans (congrArg (Rs.ok · S) (show (!decide (ds.length = n)) = true by simp [hl]))
    exact seq_r (if_t t' (ret_n rfl))
theorem eval_formN {P P2 : List (Nat × Nat)} {d : D} (hd : d = .non ∨ (∃ i, d = .int i) ∨ ∃ x, d = .str x) (S : Sto) : F_has_row_form [ordD n P, ordD m P2, d] S = .ok (.bl false) S := by
  refine Fof_ret0 (seq_r (if_t (or_t ?_) (ret_n rfl))) trivial
  rcases hd with rfl | ⟨i, rfl⟩ | ⟨x, rfl⟩ <;> rfl
end
end K09

namespace K09
open PySem L2 Z K06 K10
open PySem.Spec PyProof.Rows
variable [Tabs]
section
variable {env env1 : En} {S S1 S2 : Sto} {x : XV} {d : D} {a b : EM D}
theorem ret_x (h : a env S = .exc x S1) : zRet a env S = .mk (.exc x env) S1 := by rw [zRet, h]; rfl
theorem tup2_x (h : a env S = .ok d S1) (h' : b env S1 = .exc x S2) : zTup (zCons a (zCons b zNil)) env S = .exc x S2 := by simp [zTup, zCons, h, h']
variable {i : Nat} {cat : List (Str × Bool)} {fb : SM} {fh : XV → SM}
theorem try_ok (h : fb env S = .mk (.ret d) S1) : zTryAs i cat fb fh env S = .mk (.ret d) S1 := by rw [zTryAs, h]
theorem try_x (h : fb env S = .mk (.exc x env1) S1) (hi : i < env1.length) (hc : cat.lookup x.nm = some true) (h2 : fh x (env1.set i none) S1 = .mk (.ret d) S2) : zTryAs i cat fb fh env S = .mk (.ret d) S2 := by
  rw [zTryAs, h]
  dsimp only
  rw [if_pos hi, hc]
  dsimp only
  rw [h2]
  rfl
end
abbrev bad (d : D) : XV := ⟨"BadMap", some [("pair", d)]⟩
section
variable {n m : Nat} {w w2 : Nat → Nat → Int} {row : List Nat}
theorem check_no {o1 o2 d : D} {S : Sto} (h : F_has_row_form [o1, o2, d] S = .ok (.bl false) S) : F_check_map [o1, o2, d] S = .exc (bad .non) S := by
  refine Fof_exc0 (seq_x (if_t (not_n (truB_n (callF3 rfl rfl rfl h))) (raise_n rfl))) fun fs e p hp => ?_
  cases e
  rw [List.mem_singleton.mp hp]
  trivial
theorem row_els (hr : ∀ x ∈ row, x < m) : (row.map dN).all (elB m) = true := by
  rw [List.all_map, List.all_eq_true]
  intro x hx
  have := hr x hx
  show (decide (0 ≤ ((x : Nat) : Int)) && decide (((x : Nat) : Int) < (m : Int))) = true
  simp [this]
theorem check_row (hn : n ≤ 64) (hm : m ≤ 64) (hl : row.length = n) (hr : ∀ x ∈ row, x < m) (S : Sto) : F_check_map [ordD n (canon n (ofW w)), ordD m (canon m (ofW w2)), rwD row] S =
    match (canon n (ofW w)).find? (fallF w2 row) with
    | none => .ok .non S
    | some p => .exc (bad (pD p)) S := by
  have f := eval_form (n := n) (m := m) (P := canon n (ofW w)) (P2 := canon m (ofW w2)) (ds := row.map dN) (by simp [bigN]; omega) (fun d hd => by obtain ⟨x, _, rfl⟩ := List.mem_map.mp hd; trivial) S
  rw [row_els hr, List.length_map, decide_eq_true hl] at f
  have hP : ∀ p ∈ canon m (ofW w2), p.1 < m ∧ p.2 < 64 := fun p hp => by
    obtain ⟨x, y⟩ := p
    have := mem_canon.mp hp
    exact ⟨this.1, by omega⟩
  have g := eval_fall (n := n) (m := m) (w2 := w2) (row := row) (P := canon n (ofW w)) hm hl hr (fun p hp => by obtain ⟨x, y⟩ := p; have := mem_canon.mp hp; exact ⟨this.1, this.2.1⟩) S
  have s1 : zSet 3 (zCallF 3 F_falling_pair (zCons (zVar 0) (zCons (zCallF 1 F_with_selves (zCons (zCallF 1 F_masks_above (zCons (zVar 1) zNil)) zNil)) (zCons (zVar 2) zNil)))) [some (ordD n (canon n (ofW w))), some (ordD m (canon m (ofW w2))), some (rwD row), none] S = _ :=
    set_n (callF3 rfl (callF1 (callF1 rfl (eval_above hm hP S)) (eval_selves hm _ S)) rfl g)
  have c1 : zNot (zTru (zCallF 3 F_has_row_form (zCons (zVar 0) (zCons (zVar 1) (zCons (zVar 2) zNil))))) [some (ordD n (canon n (ofW w))), some (ordD m (canon m (ofW w2))), some (rwD row), none] S = .ok false S := not_n (truB_n (callF3 rfl rfl rfl f))
  have tl0 : zIfS (zB (zOp dIsNot (zVar 3) (zC .non))) (zRaise1 "BadMap" "pair" (zVar 3)) zNext [some (ordD n (canon n (ofW w))), some (ordD m (canon m (ofW w2))), some (rwD row), some .non] S = .mk (.next [some (ordD n (canon n (ofW w))), some (ordD m (canon m (ofW w2))), some (rwD row), some .non]) S := if_f (b_n rfl) rfl
  have tl1 : ∀ p, zIfS (zB (zOp dIsNot (zVar 3) (zC .non))) (zRaise1 "BadMap" "pair" (zVar 3)) zNext [some (ordD n (canon n (ofW w))), some (ordD m (canon m (ofW w2))), some (rwD row), some (pD p)] S = .mk (.exc (bad (pD p)) [some (ordD n (canon n (ofW w))), some (ordD m (canon m (ofW w2))), some (rwD row), some (pD p)]) S := fun p => if_t (b_n rfl) (raise_n rfl)
  cases hq : (canon n (ofW w)).find? (fallF w2 row) with
  | none =>
    rw [hq] at s1
    exact Fof_next0 (seq_n (if_f c1 rfl) (seq_n s1 tl0))
  | some p =>
    rw [hq] at s1
    refine Fof_exc0 (seq_n (if_f c1 rfl) (seq_n s1 (tl1 p))) fun fs e q hq => ?_
    cases e
    rw [List.mem_singleton.mp hq]
    exact cl_opt (some p)
variable {nm nm2 : List Nat}
theorem ask_x {d pv : D} {b : Bool} {S : Sto} (hc : D.cl S.length pv) (h : F_check_map [ordD n (canon n (ofW w)), ordD m (canon m (ofW w2)), d] S = .exc (bad pv) S) : F__law_asked [spD n w nm, spD m w2 nm2, d, .bl b] S = .ok (.tup [.str "bad", pv]) S := by
  refine Fof_ret0 (seq_r (try_x (x := bad pv) (env1 := [some (spD n w nm), some (spD m w2 nm2), some d, some (.bl b), none]) (S1 := S) ?_ (by show 4 < 5; decide) (show List.lookup ("BadMap" : Str) [(("BadMap" : Str), true)] = some true by decide +kernel) ?_)) ⟨trivial, hc, trivial⟩
  · cases b with
    | true => exact seq_x (if_t (truB_n rfl) (ret_x (tup2_x rfl (callK_n nil_n (cons_n rfl (cons_n (sp_o rfl) (one_n (sp_o rfl)))) rfl h))))
    | false => exact seq_n (if_f (truB_n rfl) rfl) (ret_x (tup2_x rfl (callF3 (sp_o rfl) (sp_o rfl) rfl h)))
  · refine if_t (and_n (truB_n (S1 := S) ?_) (truB_n (S1 := S) ?_)) (if_t (not_n (x := false) (truB_n (S1 := S) ?_)) (ret_n (tup2_n (S1 := S) rfl ?_)))
    · rfl
    · rfl
    · rfl
    · rfl
theorem ask_ok {d r : D} {b : Bool} {S : Sto} (hc : D.cl S.length r) (h : F_check_map [ordD n (canon n (ofW w)), ordD m (canon m (ofW w2)), d] S = .ok r S) : F__law_asked [spD n w nm, spD m w2 nm2, d, .bl b] S = .ok (.tup [.str "told", r]) S := by
  refine Fof_ret0 (seq_r (try_ok ?_)) ⟨trivial, hc, trivial⟩
  cases b with
  | true => exact seq_r (if_t (truB_n rfl) (ret_n (tup2_n rfl (callK_n nil_n (cons_n rfl (cons_n (sp_o rfl) (one_n (sp_o rfl)))) rfl h))))
  | false => exact seq_n (if_f (truB_n rfl) rfl) (ret_n (tup2_n rfl (callF3 (sp_o rfl) (sp_o rfl) rfl h)))
theorem ask_row (hn : n ≤ 64) (hm : m ≤ 64) (hl : row.length = n) (hr : ∀ x ∈ row, x < m) (b : Bool) (S : Sto) : F__law_asked [spD n w nm, spD m w2 nm2, rwD row, .bl b] S = .ok (dueD ((canon n (ofW w)).find? (fallF w2 row))) S := by
  have h := check_row (w := w) (w2 := w2) hn hm hl hr S
  cases hq : (canon n (ofW w)).find? (fallF w2 row) with
  | none => rw [hq] at h; exact ask_ok trivial h
  | some p => rw [hq] at h; exact ask_x (cl_opt (some p)) h
end
/-! ### the law's comparing -/
theorem same_non (k : Nat) (S : Sto) : F__law_same (k + 1) [.non, .non] S = .ok (.bl true) S := by
  unfold F__law_same
  exact Fof_ret0 (by simp [run__law_same, zIsi, tyD, show subT "NoneType" "tuple" = false by decide +kernel]) trivial
theorem same_str (k : Nat) (x : Str) (S : Sto) : F__law_same (k + 1) [.str x, .str x] S = .ok (.bl true) S := by
  unfold F__law_same
  exact Fof_ret0 (by simp [run__law_same, zIsi, tyD, show subT "str" "tuple" = false by decide +kernel, show subT "str" "bool" = false by decide +kernel, show subT "str" "str" = true by decide +kernel, show dEq (.str x) (.str x) S = .ok (.bl true) S by simp [dEq]]) trivial
theorem same_tup {k : Nat} {ds : List D} (h : ds.length ≤ 64) (S : Sto) (hd : ∀ d ∈ ds, F__law_same k [d, d] S = .ok (.bl true) S) : F__law_same (k + 1) [.tup ds, .tup ds] S = .ok (.bl true) S := by
  unfold F__law_same
  refine Fof_ret0 (d := .bl true) ?_ trivial
  obtain ⟨x', e⟩ := alike_loop (F := F__law_same k) (ds := ds) (t := .tup ds) (S := S) (.inl rfl) hd ((List.range ds.length).map dN) (List.range ds.length) none fun i hi => by simpa using List.mem_range.mp hi
  simp [run__law_same, zIsi, tyD, zFor, zRange1, show (ds.length : Int) ≤ 1000000 by omega, show -1000000 ≤ (ds.length : Int) by omega, rangeD_n, e]
theorem same_due (o : Option (Nat × Nat)) (S : Sto) : F__law_same 8 [dueD o, dueD o] S = .ok (.bl true) S := by
  cases o with
  | none =>
    refine same_tup (by show 2 ≤ 64; decide) S fun d hd => ?_
    rcases (List.mem_cons.mp hd) with rfl | hd
    · exact same_str 6 _ S
    · rw [List.mem_singleton.mp hd]; exact same_non 6 S
  | some p =>
    refine same_tup (by show 2 ≤ 64; decide) S fun d hd => ?_
    rcases (List.mem_cons.mp hd) with rfl | hd
    · exact same_str 6 _ S
    · rw [List.mem_singleton.mp hd]
      refine same_tup (by show 2 ≤ 64; decide) S fun d hd => ?_
      rcases (List.mem_cons.mp hd) with rfl | hd
      · exact same_int 5 _ S
      · rw [List.mem_singleton.mp hd]; exact same_int 5 _ S
theorem same_bad (S : Sto) : F__law_same 8 [.tup [.str "bad", .non], .tup [.str "bad", .non]] S = .ok (.bl true) S := by
  refine same_tup (by show 2 ≤ 64; decide) S fun d hd => ?_
  rcases (List.mem_cons.mp hd) with rfl | hd
  · exact same_str 6 _ S
  · rw [List.mem_singleton.mp hd]; exact same_non 6 S
end K09

namespace K09
open PySem L2 Z K06 K07 K10
open PySem.Spec PyProof.Rows
variable [Tabs]
/-! ### a row as a tuple or as a list that may change -/
def RowIn (ib : Nat) (S : Sto) (d : D) (row : List Nat) : Prop := d = rwD row ∨ ∃ o, d = .ptr o ∧ o ≠ ib ∧ S[o]? = some (.lst (row.map dN))
section
variable {ib n m : Nat} {S S' : Sto} {d : D} {row : List Nat}
theorem RowIn.eff (h : RowIn ib S d row) (e : Eff ib S S') : RowIn ib S' d row := by
  rcases h with h | ⟨o, h1, h2, h3⟩
  · exact .inl h
  · exact .inr ⟨o, h1, h2, (e.same o h2).trans h3⟩
theorem RowIn.app (h : RowIn ib S d row) (L : Sto) : RowIn ib (S ++ L) d row := by
  rcases h with h | ⟨o, h1, h2, h3⟩
  · exact .inl h
  · exact .inr ⟨o, h1, h2, by rw [List.getElem?_append_left (List.getElem?_eq_some_iff.mp h3).1]; exact h3⟩
theorem RowIn.len (h : RowIn ib S d row) : dLen [d] S = .ok (dN row.length) S := by
  rcases h with h | ⟨o, h1, h2, h3⟩
  · rw [h]
    show Rs.ok (D.int ((row.map dN).length : Nat)) S = _
    rw [List.length_map]; rfl
  · rw [h1]
    simp [dLen, h3, dN]
theorem RowIn.copy (h : RowIn ib S d row) : dListC [d] S = .ok (.ptr S.length) (S ++ [.lst (row.map dN)]) := by
  rcases h with h | ⟨o, h1, h2, h3⟩
  · rw [h]; rfl
  · rw [h1]
    simp [dListC, seqOf, h3]
theorem stSet_last {S0 : Sto} {l : List Nat} {i v k : Nat} (hk : k = S0.length) (hi : i < l.length) : stSet (.ptr k) (dN i) (dN v) (S0 ++ [.lst (l.map dN)]) = some (S0 ++ [.lst ((l.set i v).map dN)]) := by
  subst hk
  have g0 : (S0 ++ [C.lst (l.map dN)])[S0.length]? = some (.lst (l.map dN)) := by rw [List.getElem?_append_right (Nat.le_refl _)]; simp
  unfold stSet
  simp only [dN, g0]
  have : (l.map dN).length = l.length := List.length_map _
  rw [this, ixNn hi]
  simp only []
  rw [List.set_append_right _ _ (Nat.le_refl _), Nat.sub_self, List.set_cons_zero, List.map_set]
  rfl
theorem dTup_last {S0 : Sto} {l : List Nat} {k : Nat} (hk : k = S0.length) : dTuple [.ptr k] (S0 ++ [.lst (l.map dN)]) = .ok (rwD l) (S0 ++ [.lst (l.map dN)]) := by
  subst hk
  have g0 : (S0 ++ [C.lst (l.map dN)])[S0.length]? = some (.lst (l.map dN)) := by rw [List.getElem?_append_right (Nat.le_refl _)]; simp
  simp only [dTuple, seqOf, g0]
  rfl
theorem mul_if {a : Int} (b : Bool) (S : Sto) (h : -100 < a ∧ a < 100) : dMul (.int a) (.int (if b = true then 1 else 0)) S = .ok (.int (if b = true then a else 0)) S := by
  rw [ev_mul, if_pos (.inl ⟨by omega, by omega⟩)]
  cases b
  · rw [if_neg (by decide), if_neg (by decide), Int.mul_zero]
  · rw [if_pos rfl, if_pos rfl, Int.mul_one]
theorem eval_changed {many : Nat} (hP : PoolAt ib S) (hr : RowIn ib S d row) (hmany : many ≤ 4) (hl : row.length = n) (hn : n ≤ 64) (hm : m ≤ 64) (hnm : 0 < n → 0 < m) (hrm : ∀ x ∈ row, x < m) :
    ∃ r S', F__law_changed [.ptr ib, d, dN many, dN m] S = .ok r S' ∧ Eff ib S S' ∧ RwOk n m r := by
  obtain ⟨N, hNe⟩ : ∃ N, N = many * (if 0 < n then 1 else 0) := ⟨_, rfl⟩
  have hN : N ≤ 4096 := by
    rw [hNe]
    split <;> omega
  have hR : ∀ L, RowIn ib (S ++ L) d row := fun L => hr.app L
  have rn : zRange1 (zCons (zOp dMul (zVar 2) (zCall dInt (zCons (zOp dGt (zCall dLen (zCons (zVar 1) zNil)) (zC (.int 0))) zNil))) zNil) [some (.ptr ib), some d, some (dN many), some (dN m), some (.ptr S.length), none] (S ++ [.lst (row.map dN)]) = .ok ⟨(List.range N).map dN, none⟩ (S ++ [.lst (row.map dN)]) := by
    have lR := (hR [.lst (row.map dN)]).len
    rw [hl] at lR
    generalize (S ++ [C.lst (row.map dN)]) = T at lR ⊢
    have q1 : zCall dLen (zCons (zVar 1) zNil) [some (.ptr ib), some d, some (dN many), some (dN m), some (.ptr S.length), none] T = .ok (dN n) T := call_n (one_n rfl) lR
    have q2 : zOp dGt (zCall dLen (zCons (zVar 1) zNil)) (zC (.int 0)) [some (.ptr ib), some d, some (dN many), some (dN m), some (.ptr S.length), none] T = .ok (.bl (decide (0 < n))) T := by
      refine op_n q1 (d1 := .int 0) rfl ?_
      show Rs.ok (D.bl (decide ((0 : Int) < ((n : Nat) : Int)))) T = _
      simp
    have q3 := call_n (one_n q2) (int_b (decide (0 < n)) T)
    have q4 : dMul (dN many) (.int (if decide (0 < n) = true then 1 else 0)) T = .ok (dN N) T := by
      refine (mul_if (a := (many : Int)) (decide (0 < n)) T (by omega)).trans ?_
      by_cases h0 : 0 < n
      · rw [if_pos h0, Nat.mul_one] at hNe
        rw [if_pos (decide_eq_true h0), hNe]
        rfl
      · rw [if_neg h0, Nat.mul_zero] at hNe
        rw [if_neg (by simp [h0]), hNe]
        rfl
    have q5 := op_n (o := dMul) (a := zVar 2) (d := dN many) (env := [some (.ptr ib), some d, some (dN many), some (dN m), some (.ptr S.length), none]) (S := T) (S1 := T) rfl q3 q4
    exact rng1 hN q5
  have lp := for_n (N := N) (b := zPut (zVar 4) (zCallF 2 F__law_take (zCons (zVar 0) (zCons (zCall dLen (zCons (zVar 1) zNil)) zNil))) (zCallF 2 F__law_take (zCons (zVar 0) (zCons (zVar 3) zNil)))) (g := zgName 5)
    (P := fun _ env T => ∃ (S0 : Sto) (l : List Nat) (k : Option D), env = [some (.ptr ib), some d, some (dN many), some (dN m), some (.ptr S.length), k] ∧ T = S0 ++ [.lst (l.map dN)] ∧ Eff ib S S0 ∧ l.length = n ∧ ∀ x ∈ l, x < m) rn ⟨S, row, none, rfl, rfl, Eff.rfl' hP, hl, hrm⟩ (by
      rintro i env T hi ⟨S0, l, k, rfl, rfl, hE, hl0, hm0⟩
      have h0 : 0 < n := by
        refine Nat.pos_of_ne_zero fun e => ?_
        have : N = 0 := by rw [hNe, if_neg (by omega)]; omega
        omega
      have hmp := hnm h0
      obtain ⟨v, T1, a1, a2, a3⟩ := eval_take (PoolAt.app hE.at_ [.lst (l.map dN)]) (many := (m : Int)) (by omega) (by omega)
      obtain ⟨S1, rfl, b2⟩ := a2.split (PoolAt.lt hE.at_)
      obtain ⟨j, T2, c1, c2, c3⟩ := eval_take (PoolAt.app b2.at_ [.lst (l.map dN)]) (many := (n : Int)) (by omega) (by omega)
      obtain ⟨S2, rfl, d2⟩ := c2.split (PoolAt.lt b2.at_)
      have ln : dLen [d] (S1 ++ [.lst (l.map dN)]) = .ok (dN n) (S1 ++ [.lst (l.map dN)]) := by
        have := (((hr.eff hE).eff b2).app [.lst (l.map dN)]).len
        rw [hl] at this; exact this
      refine ⟨[some (.ptr ib), some d, some (dN many), some (dN m), some (.ptr S.length), some (dN i)], _, _, rfl, putL_n (d := dN v) (d1 := .ptr S.length) (d2 := dN j) (callF2 rfl rfl a1) rfl (callF2 rfl (call_n (one_n rfl) ln) c1) (stSet_last (by rw [d2.len, b2.len, hE.len]) (by omega)), S2, l.set j v, some (dN i), rfl, rfl, (hE.trans b2).trans d2, by rw [List.length_set, hl0], fun x hx => ?_⟩
      rcases List.mem_or_eq_of_mem_set hx with h | h
      · exact hm0 x h
      · omega)
  obtain ⟨env', T', ⟨S0, l, k, rfl, rfl, hE, hl0, hm0⟩, q⟩ := lp
  exact ⟨rwD l, S0, Fof_effL (L := [.lst (l.map dN)]) (seq_n (set_n (call_n (one_n rfl) hr.copy)) (seq_n q (ret_n (call_n (one_n rfl) (dTup_last hE.len.symm))))) hE (cl_rw _), hE, ⟨l, hl0, hm0, rfl⟩⟩
end
/-! ### rows that are rows -/
section
variable {ib n m : Nat} {S : Sto}
noncomputable def rrB : SM := (zSeq (zSet 5 (zCallF 3 F__law_due (zCons (zVar 1) (zCons (zVar 2) (zCons (zVar 4) zNil)))))
    (zSeq (zIfS (zNot (zTru (zCallF 2 (F__law_same 8) (zCons (zCallF 4 F__law_asked (zCons (zVar 1) (zCons (zVar 2) (zCons (zVar 4) (zCons (zC (.bl false)) zNil))))) (zCons (zVar 5) zNil))))) (zRet (zC (.bl false))) zNext)
    (zIfS (zNot (zTru (zCallF 2 (F__law_same 8) (zCons (zCallF 4 F__law_asked (zCons (zVar 1) (zCons (zVar 2) (zCons (zVar 4) (zCons (zC (.bl true)) zNil))))) (zCons (zVar 5) zNil))))) (zRet (zC (.bl false))) zNext)))
theorem rows_src {rs : List D} {dr : D} (hr : dr = .lst rs ∨ ∃ o, dr = .ptr o ∧ S[o]? = some (.lst rs)) : ∃ gd, srcOf dr S = some ⟨rs, gd⟩ ∧ (⟨rs, gd⟩ : Src).okAt S = true := by
  rcases hr with rfl | ⟨o, rfl, h⟩
  · exact ⟨none, rfl, rfl⟩
  · exact ⟨some o, by simp [srcOf, h], by simp [Src.okAt, h]⟩
theorem eval_rows {d1 d2 dp dr : D} {rs : List D} (hn : n ≤ 64) (hm : m ≤ 64) (h1 : SpOk n d1) (h2 : SpOk m d2) (hrs : ∀ r ∈ rs, RwOk n m r) (hr : dr = .lst rs ∨ ∃ o, dr = .ptr o ∧ S[o]? = some (.lst rs)) : F__law_rows_right [dp, d1, d2, dr] S = .ok (.bl true) S := by
  obtain ⟨w, nm, _, _, rfl⟩ := h1
  obtain ⟨w2, nm2, _, _, rfl⟩ := h2
  obtain ⟨gd, s1, s2⟩ := rows_src hr
  have go := forL_all (S := S) (s := ⟨rs, gd⟩) (mk := id) (g := zgName 4) (b := rrB) (P := fun env => ∃ x y, env = [some dp, some (spD n w nm), some (spD m w2 nm2), some dr, x, y]) s2 rs [some dp, some (spD n w nm), some (spD m w2 nm2), some dr, none, none] ⟨none, none, rfl⟩ (by
    rintro r hr' env ⟨x, y, rfl⟩
    obtain ⟨row, hl, hrm, rfl⟩ := hrs r hr'
    refine ⟨[some dp, some (spD n w nm), some (spD m w2 nm2), some dr, some (rwD row), y], [some dp, some (spD n w nm), some (spD m w2 nm2), some dr, some (rwD row), some (dueD ((canon n (ofW w)).find? (fallF w2 row)))], rfl, ?_, _, _, rfl⟩
    have c : ∀ b, zNot (zTru (zCallF 2 (F__law_same 8) (zCons (zCallF 4 F__law_asked (zCons (zVar 1) (zCons (zVar 2) (zCons (zVar 4) (zCons (zC (.bl b)) zNil))))) (zCons (zVar 5) zNil)))) [some dp, some (spD n w nm), some (spD m w2 nm2), some dr, some (rwD row), some (dueD ((canon n (ofW w)).find? (fallF w2 row)))] S = .ok false S := fun b =>
      not_n (truB_n (callF2 (callF4 rfl rfl rfl rfl (ask_row hn hm hl hrm b S)) rfl (same_due _ S)))
    exact seq_n (set_n (callF3 rfl rfl rfl (eval_due hl hrm S))) (seq_n (if_f (c false) rfl) (if_f (c true) rfl)))
  obtain ⟨env', ⟨x, y, rfl⟩, q⟩ := go
  rw [List.map_id] at q
  have sr : zSrc (zVar 3) [some dp, some (spD n w nm), some (spD m w2 nm2), some dr, none, none] S = .ok ⟨rs, gd⟩ S := by
    rw [zSrc]
    show ((Rs.ok dr S).bnd _) = _
    rw [Rs.bnd_ok, s1]
  exact Fof_ret0 (seq_n (zFor_n sr q) (ret_n rfl)) trivial
end
end K09

namespace K09
open PySem L2 Z K06 K07 K10
open PySem.Spec PyProof.Rows
variable [Tabs]
/-! ### what is no row -/
def Wr (n m : Nat) (d : D) : Prop := (∀ k, D.cl k d) ∧ ((d = .non ∨ (∃ i, d = .int i) ∨ ∃ x, d = .str x) ∨ ∃ ds, d = .tup ds ∧ ds.length ≤ bigN ∧ (∀ e ∈ ds, Simp e) ∧ (ds.length ≠ n ∨ ∃ e ∈ ds, elB m e = false))
def OddOk (m : Nat) (e : D) : Prop := (∀ k, D.cl k e) ∧ Simp e ∧ elB m e = false
section
variable {n m : Nat} {d : D} {S : Sto}
theorem wr_form (h : Wr n m d) (P P2 : List (Nat × Nat)) (S : Sto) : F_has_row_form [ordD n P, ordD m P2, d] S = .ok (.bl false) S := by
  obtain ⟨_, h | ⟨ds, rfl, h1, h2, h3⟩⟩ := h
  · exact eval_formN h S
  · refine (eval_form h1 h2 S).trans ?_
    congr 2
    rcases h3 with h3 | ⟨e, he, h3⟩
    · rw [decide_eq_false h3, Bool.false_and]
    · have : ds.all (elB m) = false := by
        rw [Bool.eq_false_iff]
        intro q
        rw [List.all_eq_true.mp q e he] at h3
        cases h3
      rw [this, Bool.and_false]
theorem wr_ask {w w2 : Nat → Nat → Int} {nm nm2 : List Nat} (h : Wr n m d) (b : Bool) (S : Sto) : F__law_asked [spD n w nm, spD m w2 nm2, d, .bl b] S = .ok (.tup [.str "bad", .non]) S :=
  ask_x trivial (check_no (wr_form h _ _ S))
theorem wr_len {l : List Nat} (h : l.length ≠ n) (hb : l.length ≤ bigN) : Wr n m (rwD l) :=
  ⟨fun k => cl_rw l, .inr ⟨_, rfl, by rw [List.length_map]; exact hb, fun e he => by obtain ⟨x, _, rfl⟩ := List.mem_map.mp he; trivial, .inl (by rw [List.length_map]; exact h)⟩⟩
theorem wr_in {ds : List D} (hb : ds.length ≤ bigN) (hs : ∀ e ∈ ds, Simp e) (hc : ∀ k, D.cls k ds) {e : D} (he : e ∈ ds) (h : elB m e = false) : Wr n m (.tup ds) := ⟨fun k => hc k, .inr ⟨ds, rfl, hb, hs, .inr ⟨e, he, h⟩⟩⟩
theorem odd_row (l : List D) (h : ∀ k, ∀ e ∈ l, D.cl k e) : OddOk m (.tup l) := ⟨fun k => cls_all (h k), trivial, rfl⟩
theorem odd_int {i : Int} (h : ¬ (0 ≤ i ∧ i < (m : Int))) : OddOk m (.int i) := ⟨fun _ => trivial, trivial, by
  show (decide (0 ≤ i) && decide (i < (m : Int))) = false
  by_cases h1 : 0 ≤ i
  · have h2 : ¬ i < (m : Int) := fun q => h ⟨h1, q⟩
    simp [h2]
  · simp [h1]⟩
theorem cl_row {l : List Nat} {k : Nat} {e : D} (h : e ∈ l.map dN) : D.cl k e := by
  obtain ⟨x, _, rfl⟩ := List.mem_map.mp h
  trivial
theorem cut_last (l : List D) (h : 0 < l.length) : (Z.cutD l none (some (-1))).length = l.length - 1 := by
  unfold Z.cutD HT.sIx
  simp
  omega
theorem tA {a b : List D} (h : a.length + b.length ≤ bigN) (S : Sto) : dAdd (.tup a) (.tup b) S = .ok (.tup (a ++ b)) S := by
  show (if a.length + b.length ≤ bigN then Rs.ok (D.tup (a ++ b)) S else .stk) = _
  rw [if_pos h]
/-- a walk over items whose turns change the store -/
theorem loop_d {b : SM} {g : GM} {P : Nat → En → Sto → Prop} {N : Nat} (xs : List D) : ∀ (L : List D) (i : Nat) (env : En) (T : Sto), i + L.length = N → (∀ d ∈ L, ∀ i env T, i < N → P i env T → ∃ env1 env2 T2, g d env = some env1 ∧ b env1 T = .mk (.next env2) T2 ∧ P (i + 1) env2 T2) → P i env T → ∃ env' T', P N env' T' ∧ forL ⟨xs, none⟩ g b L env T = .mk (.next env') T'
  | [], i, env, T, hN, _, h => ⟨env, T, by rw [← hN]; exact h, forL_nil rfl⟩
  | d :: L, i, env, T, hN, st, h => by
    rw [List.length_cons] at hN
    obtain ⟨env1, env2, T2, h1, h2, h3⟩ := st d List.mem_cons_self i env T (by omega) h
    obtain ⟨env', T', h4, h5⟩ := loop_d xs L (i + 1) env2 T2 (by omega) (fun d hd => st d (List.mem_cons_of_mem _ hd)) h3
    refine ⟨env', T', h4, ?_⟩
    rw [forL_cons rfl h1, h2]
    exact h5
end
section
variable {n m ib : Nat} {S : Sto} {row : List Nat}
def f0 (row : List Nat) : List D := [.non, .str "", .str "0", .int 0, dN row.length, .tup (row.map dN ++ [.int 0]), .tup [rwD row], .tup [rwD row, rwD row], .tup (row.map dN ++ row.map dN ++ [.int 0])]
theorem simp_row {l : List Nat} : ∀ e ∈ l.map dN, Simp e := fun e he => by obtain ⟨x, _, rfl⟩ := List.mem_map.mp he; trivial
theorem f0_ok (hl : row.length = n) (hn : n ≤ 64) : ∀ d ∈ f0 row, Wr n m d := by
  intro d hd
  have cr : ∀ k, D.cl k (rwD row) := fun k => cl_rw row
  have app : ∀ l : List Nat, D.tup (l.map dN ++ [.int 0]) = rwD (l ++ [0]) := fun l => by show _ = D.tup ((l ++ [0]).map dN); rw [List.map_append]; rfl
  have app2 : D.tup (row.map dN ++ row.map dN ++ [.int 0]) = rwD (row ++ row ++ [0]) := by rw [← List.map_append]; exact app _
  unfold f0 at hd
  rw [app, app2] at hd
  simp only [List.mem_cons, List.not_mem_nil, or_false] at hd
  rcases hd with rfl | rfl | rfl | rfl | rfl | rfl | rfl | rfl | rfl
  · exact ⟨fun _ => trivial, .inl (.inl rfl)⟩
  · exact ⟨fun _ => trivial, .inl (.inr (.inr ⟨_, rfl⟩))⟩
  · exact ⟨fun _ => trivial, .inl (.inr (.inr ⟨_, rfl⟩))⟩
  · exact ⟨fun _ => trivial, .inl (.inr (.inl ⟨_, rfl⟩))⟩
  · exact ⟨fun _ => trivial, .inl (.inr (.inl ⟨_, rfl⟩))⟩
  · exact wr_len (by simp; omega) (by simp [bigN]; omega)
  · exact wr_in (e := rwD row) (by simp [bigN]) (fun e he => by rw [List.mem_singleton.mp he]; trivial) (fun k => ⟨cr k, trivial⟩) List.mem_cons_self rfl
  · exact wr_in (e := rwD row) (by simp [bigN]) (fun e he => by
      rcases (List.mem_cons.mp he) with rfl | he
      · trivial
      · rw [List.mem_singleton.mp he]; trivial) (fun k => ⟨cr k, cr k, trivial⟩) List.mem_cons_self rfl
  · exact wr_len (by simp; omega) (by simp [bigN]; omega)
end
end K09

namespace K09
open PySem L2 Z K06 K07 K10
open PySem.Spec PyProof.Rows
variable [Tabs]
theorem pow_n {i j : Int} (h : CPow i j) (env : En) (S : Sto) : zOp dPow (zC (.int i)) (zC (.int j)) env S = .ok (.int (i ^ j.toNat)) S := by
  refine op_n (d := .int i) (d1 := .int j) rfl rfl ?_
  unfold dPow dI2
  simp only [if_pos h]
theorem pow59 : ∃ p : Int, 100 < p ∧ ∀ (env : En) (S : Sto), zOp dPow (zC (.int 10)) (zC (.int 59)) env S = .ok (.int p) S :=
  ⟨(10 : Int) ^ (59 : Int).toNat, by decide +kernel, fun env S => pow_n ⟨by decide, by decide, by decide⟩ env S⟩
theorem eq0_N (k : Nat) (S : Sto) : dEq (dN k) (.int 0) S = .ok (.bl (decide (k = 0))) S := by
  show Rs.ok (D.bl (decide ((k : Int) = 0))) S = _
  congr 2
  by_cases h : k = 0 <;> simp [h]
theorem sub_I (i j : Int) (S : Sto) : dSub (.int i) (.int j) S = .ok (.int (i - j)) S := rfl
theorem add_I (i j : Int) (S : Sto) : dAdd (.int i) (.int j) S = .ok (.int (i + j)) S := rfl
theorem app_last {S0 : Sto} {l : List D} {y : D} {k : Nat} (hk : k = S0.length) (hb : l.length < bigN) : dAppend (.ptr k) [y] (S0 ++ [.lst l]) = .ok .non (S0 ++ [.lst (l ++ [y])]) := by
  subst hk
  have g0 : (S0 ++ [C.lst l])[S0.length]? = some (.lst l) := by rw [List.getElem?_append_right (Nat.le_refl _)]; simp
  simp only [dAppend, g0, if_pos hb]
  rw [List.set_append_right _ _ (Nat.le_refl _), Nat.sub_self, List.set_cons_zero]
theorem isP_last {S0 : Sto} {l : List D} {k : Nat} (hk : k = S0.length) : isPtrL (.ptr k) (S0 ++ [.lst l]) = true := by
  subst hk
  have g0 : (S0 ++ [C.lst l])[S0.length]? = some (.lst l) := by rw [List.getElem?_append_right (Nat.le_refl _)]; simp
  simp [isPtrL, g0]
theorem add_last {S0 : Sto} {l ys : List D} {k : Nat} (hk : k = S0.length) (hb : l.length + ys.length ≤ bigN) : dAdd (.ptr k) (.lst ys) (S0 ++ [.lst l]) = .ok (.lst (l ++ ys)) (S0 ++ [.lst l]) := by
  subst hk
  have g0 : (S0 ++ [C.lst l])[S0.length]? = some (.lst l) := by rw [List.getElem?_append_right (Nat.le_refl _)]; simp
  simp only [dAdd, g0, if_pos hb]
theorem meth_n {o : D → List D → Sto → Rs D} {a : EM D} {xs : EM (List D)} {env : En} {S S1 S2 : Sto} {d : D} {ds : List D} {R : Rs D} (h : a env S = .ok d S1) (hp : isPtrL d S1 = true) (h2 : xs env S1 = .ok ds S2) (h3 : o d ds S2 = R) : zMethL o a xs env S = R := by
  rw [zMethL, h, Rs.bnd_ok, if_pos hp, h2]
  exact h3
section
variable {n m ib : Nat} {S : Sto} {row : List Nat}
def fE (ib : Nat) (row : List Nat) (m : Nat) (f a os o : Option D) : En := [some (.ptr ib), some (rwD row), some (dN m), f, a, os, o]
noncomputable def fB : SM := zExpr (zMethL dAppend (zVar 3) (zCons (zOp dAdd (zOp dAdd (zSl (zVar 1) zNoPart (zPart (zVar 4))) (zTup (zCons (zVar 6) zNil))) (zSl (zVar 1) (zPart (zOp dAdd (zVar 4) (zC (.int 1)))) zNoPart)) zNil))
theorem len1 (f a os o : Option D) (T : Sto) : zCall dLen (zCons (zVar 1) zNil) (fE ib row m f a os o) T = .ok (dN row.length) T := (lenT_n (xs := row.map dN) rfl).trans (by rw [List.length_map])
theorem put_el {at_ : Nat} {e : D} {f os : Option D} (hb : row.length ≤ 64) (ha : at_ < row.length) (T : Sto) :
    zOp dAdd (zOp dAdd (zSl (zVar 1) zNoPart (zPart (zVar 4))) (zTup (zCons (zVar 6) zNil))) (zSl (zVar 1) (zPart (zOp dAdd (zVar 4) (zC (.int 1)))) zNoPart) (fE ib row m f (some (dN at_)) os (some e)) T = .ok (.tup ((row.map dN).take at_ ++ [e] ++ (row.map dN).drop (at_ + 1))) T := by
  have k1 := cut_take (row.map dN) (v := at_) (by simp; omega)
  have k2 := cut_drop (row.map dN) (v := at_ + 1) (by simp; omega)
  have s1 : zSl (zVar 1) zNoPart (zPart (zVar 4)) (fE ib row m f (some (dN at_)) os (some e)) T = .ok (.tup ((row.map dN).take at_)) T := by
    simp only [zSl, zVar, fE, List.getElem?_cons_succ, List.getElem?_cons_zero, Rs.bnd_ok, zNoPart, zPart, dN, rwD, dSl, k1]
  have s2 : zSl (zVar 1) (zPart (zOp dAdd (zVar 4) (zC (.int 1)))) zNoPart (fE ib row m f (some (dN at_)) os (some e)) T = .ok (.tup ((row.map dN).drop (at_ + 1))) T := by
    have : ((at_ : Int) + 1) = ((at_ + 1 : Nat) : Int) := by simp
    simp only [zSl, zOp, zC, zVar, fE, List.getElem?_cons_succ, List.getElem?_cons_zero, Rs.bnd_ok, zNoPart, zPart, dN, ev_add, this, rwD, dSl, k2]
  exact op_n (op_n s1 (tup_n (one_n rfl) (by simp [bigN])) (tA (by simp; unfold bigN; omega) T)) s2 (tA (by simp; unfold bigN; omega) T)
theorem put_wr {at_ : Nat} {e : D} (hl : row.length = n) (hb : n ≤ 64) (he : OddOk m e) : Wr n m (.tup ((row.map dN).take at_ ++ [e] ++ (row.map dN).drop (at_ + 1))) := by
  have mem : ∀ x ∈ (row.map dN).take at_ ++ [e] ++ (row.map dN).drop (at_ + 1), x ∈ row.map dN ∨ x = e := fun x hx => by
    rcases List.mem_append.mp hx with h | h
    · rcases (List.mem_append.mp h) with h | h
      · exact .inl (List.mem_of_mem_take h)
      · exact (.inr (List.mem_singleton.mp h))
    · exact .inl (List.mem_of_mem_drop h)
  refine wr_in (e := e) (by simp; unfold bigN; omega) (fun x hx => ?_) (fun k => cls_all fun x hx => ?_) (by simp) he.2.2
  · rcases mem x hx with h | rfl
    · exact simp_row x h
    · exact he.2.1
  · rcases mem x hx with h | rfl
    · exact cl_row h
    · exact he.1 k
theorem fill_forms {S1 : Sto} {at_ k : Nat} {os : Option D} {o : Option D} (hl : row.length = n) (hb : n ≤ 64) (ha : at_ < n) (hk : k = S1.length) (xs its : List D) (ho : ∀ e ∈ its, OddOk m e) (hi : its.length ≤ 100) {fs : List D} (hf : ∀ d ∈ fs, Wr n m d) (hfl : fs.length ≤ 9) :
    ∃ o' fs', forL ⟨xs, none⟩ (zgName 6) fB its (fE ib row m (some (.ptr k)) (some (dN at_)) os o) (S1 ++ [.lst fs]) = .mk (.next (fE ib row m (some (.ptr k)) (some (dN at_)) os o')) (S1 ++ [.lst fs']) ∧ (∀ d ∈ fs', Wr n m d) ∧ fs'.length ≤ 200 := by
  obtain ⟨env', T', ⟨o', fs', rfl, rfl, h1, h2⟩, q⟩ := loop_d (b := fB) (g := zgName 6) (N := its.length) (P := fun i env T => ∃ o' fs', env = fE ib row m (some (.ptr k)) (some (dN at_)) os o' ∧ T = S1 ++ [.lst fs'] ∧ (∀ d ∈ fs', Wr n m d) ∧ fs'.length ≤ 9 + i) xs its 0 (fE ib row m (some (.ptr k)) (some (dN at_)) os o) (S1 ++ [.lst fs]) (by omega) (by
    rintro e he i env T hi2 ⟨o', fs', rfl, rfl, h1, h2⟩
    have hfl2 : fs'.length < bigN := by unfold bigN; omega
    refine ⟨fE ib row m (some (.ptr k)) (some (dN at_)) os (some e), fE ib row m (some (.ptr k)) (some (dN at_)) os (some e), _, rfl, expr_n (meth_n rfl (isP_last hk) (one_n (put_el (by omega) (by omega) _)) (app_last hk hfl2)), some e, _, rfl, rfl, fun d hd => ?_, by rw [List.length_append]; simp; omega⟩
    rcases List.mem_append.mp hd with h | h
    · exact h1 d h
    · rw [List.mem_singleton.mp h]; exact put_wr hl hb (ho e he)) ⟨o, fs, rfl, rfl, hf, by omega⟩
  exact ⟨o', fs', q, h1, by omega⟩
theorem eval_forms (hP : PoolAt ib S) (hl : row.length = n) (hn : n ≤ 64) (hm : m ≤ 64) : ∃ fs S', F__law_forms [.ptr ib, rwD row, dN m] S = .ok (.lst fs) S' ∧ Eff ib S S' ∧ ∀ d ∈ fs, Wr n m d := by
  have cl : ∀ {fs : List D} {k : Nat}, (∀ d ∈ fs, Wr n m d) → D.cl k (.lst fs) := fun h => cls_all fun d hd => (h d hd).1 _
  have hfo := f0_ok (m := m) hl hn
  have s0 : zSet 3 (zLstC (zCons (zC .non) (zCons (zC (.str "")) (zCons (zC (.str "0")) (zCons (zC (.int 0)) (zCons (zCall dLen (zCons (zVar 1) zNil)) (zCons (zOp dAdd (zVar 1) (zTup (zCons (zC (.int 0)) zNil))) (zCons (zTup (zCons (zVar 1) zNil)) (zCons (zTup (zCons (zVar 1) (zCons (zVar 1) zNil))) (zCons (zOp dAdd (zOp dAdd (zVar 1) (zVar 1)) (zTup (zCons (zC (.int 0)) zNil))) zNil))))))))))
      (fE ib row m none none none none) S = .mk (.next (fE ib row m (some (.ptr S.length)) none none none)) (S ++ [.lst (f0 row)]) :=
    set_n (lstC_n (cons_n rfl (cons_n rfl (cons_n rfl (cons_n rfl (cons_n (len1 _ _ _ _ S) (cons_n (op_n rfl (tup_n (one_n rfl) (by simp [bigN])) (tA (by simp [bigN]; omega) S)) (cons_n (tup_n (one_n rfl) (by simp [bigN])) (cons_n (tup2_n rfl rfl) (one_n (op_n (op_n rfl rfl (tA (by simp [bigN]; omega) S)) (tup_n (one_n rfl) (by simp [bigN])) (tA (by simp [bigN]; omega) S))))))))))) (by simp [f0, bigN]))
  have c0 : zB (zOp dEq (zCall dLen (zCons (zVar 1) zNil)) (zC (.int 0))) (fE ib row m (some (.ptr S.length)) none none none) (S ++ [.lst (f0 row)]) = .ok (decide (row.length = 0)) (S ++ [.lst (f0 row)]) := b_n (op_n (d1 := .int 0) (len1 _ _ _ _ _) rfl (eq0_N _ _))
  by_cases h0 : row.length = 0
  · rw [decide_eq_true h0] at c0
    exact ⟨f0 row, S, Fof_eff (L := [.lst (f0 row)]) (L' := [.gone]) (seq_n s0 (seq_r (if_t c0 (ret_n rfl)))) frz_one (Eff.rfl' hP) (cl hfo), Eff.rfl' hP, hfo⟩
  rw [decide_eq_false h0] at c0
  obtain ⟨at_, T1, a1, a2, a3⟩ := eval_take (PoolAt.app hP [.lst (f0 row)]) (many := (row.length : Int)) (by omega) (by omega)
  obtain ⟨S1, rfl, e1⟩ := a2.split (PoolAt.lt hP)
  obtain ⟨x, T2, b1, b2, b3⟩ := eval_take (PoolAt.app e1.at_ [.lst (f0 row)]) (many := 1000) (by decide) (by decide)
  obtain ⟨S2, rfl, e2⟩ := b2.split (PoolAt.lt e1.at_)
  obtain ⟨y, T3, c1, c2, c3⟩ := eval_take (PoolAt.app e2.at_ [.lst (f0 row)]) (many := 1000) (by decide) (by decide)
  obtain ⟨S3, rfl, e3⟩ := c2.split (PoolAt.lt e2.at_)
  obtain ⟨p, hp, hpe⟩ := pow59
  have hE := (e1.trans e2).trans e3
  have s1 : zSet 4 (zCallF 2 F__law_take (zCons (zVar 0) (zCons (zCall dLen (zCons (zVar 1) zNil)) zNil))) (fE ib row m (some (.ptr S.length)) none none none) (S ++ [.lst (f0 row)]) = .mk (.next (fE ib row m (some (.ptr S.length)) (some (dN at_)) none none)) (S1 ++ [.lst (f0 row)]) := set_n (callF2 rfl (len1 _ _ _ _ _) a1)
  obtain ⟨od, hod⟩ : ∃ od : List D, od = [dN m, .int ((m : Int) + 1 + (x : Int)), .int (-1), .int (-1 - (y : Int)), .int p, .int (1 - p)] := ⟨_, rfl⟩
  have s2 : zSet 5 (zLst (zCons (zVar 2) (zCons (zOp dAdd (zOp dAdd (zVar 2) (zC (.int 1))) (zCallF 2 F__law_take (zCons (zVar 0) (zCons (zC (.int 1000)) zNil)))) (zCons (zUn dNeg (zC (.int 1))) (zCons (zOp dSub (zUn dNeg (zC (.int 1))) (zCallF 2 F__law_take (zCons (zVar 0) (zCons (zC (.int 1000)) zNil)))) (zCons (zOp dPow (zC (.int 10)) (zC (.int 59))) (zCons (zOp dSub (zC (.int 1)) (zOp dPow (zC (.int 10)) (zC (.int 59)))) zNil)))))))
      (fE ib row m (some (.ptr S.length)) (some (dN at_)) none none) (S1 ++ [.lst (f0 row)]) = .mk (.next (fE ib row m (some (.ptr S.length)) (some (dN at_)) (some (.lst od)) none)) (S3 ++ [.lst (f0 row)]) := by
    rw [hod]
    exact set_n (lst_n (cons_n rfl (cons_n (op_n (d := .int ((m : Int) + 1)) (op_n (d := dN m) (d1 := .int 1) rfl rfl rfl) (callF2 rfl rfl b1) (add_I _ _ _)) (cons_n (d := .int (-1)) rfl (cons_n (op_n (d := .int (-1)) rfl (callF2 rfl rfl c1) (sub_I _ _ _)) (cons_n (hpe _ _) (one_n (op_n (d := .int 1) rfl (hpe _ _) (sub_I _ _ _)))))))) (by simp [bigN]))
  have hodk : ∀ e ∈ od, OddOk m e := by
    intro e he
    rw [hod] at he
    simp only [List.mem_cons, List.not_mem_nil, or_false] at he
    rcases he with rfl | rfl | rfl | rfl | rfl | rfl <;> exact odd_int (by omega)
  obtain ⟨sl, hsl, hse⟩ : ∃ sl : List D, (∀ e ∈ sl, e ∈ row.map dN) ∧ ∀ T, zSl (zVar 1) (zPart (zVar 4)) (zPart (zOp dAdd (zVar 4) (zC (.int 1)))) (fE ib row m (some (.ptr S.length)) (some (dN at_)) (some (.lst od)) none) T = .ok (.tup sl) T :=
    ⟨Z.cutD (row.map dN) (some (at_ : Int)) (some ((at_ : Int) + 1)), fun e he => List.mem_of_mem_drop (List.mem_of_mem_take he), fun T => rfl⟩
  obtain ⟨its, hits⟩ : ∃ its : List D, its = od ++ [.non, .str "0", .str "", .tup [], .tup [.int 0], .tup sl] := ⟨_, rfl⟩
  have s3 : zSrc (zOp dAdd (zVar 5) (zLst (zCons (zC .non) (zCons (zC (.str "0")) (zCons (zC (.str "")) (zCons (zTup zNil) (zCons (zTup (zCons (zC (.int 0)) zNil)) (zCons (zSl (zVar 1) (zPart (zVar 4)) (zPart (zOp dAdd (zVar 4) (zC (.int 1))))) zNil))))))))
      (fE ib row m (some (.ptr S.length)) (some (dN at_)) (some (.lst od)) none) (S3 ++ [.lst (f0 row)]) = .ok ⟨its, none⟩ (S3 ++ [.lst (f0 row)]) := by
    refine src_l (op_n (d := .lst od) rfl (lst_n (cons_n rfl (cons_n rfl (cons_n rfl (cons_n (tup_n nil_n (by simp [bigN])) (cons_n (tup_n (one_n rfl) (by simp [bigN])) (one_n (hse _))))))) (by simp [bigN])) ?_)
    rw [hits, hod]
    simp [dAdd, bigN]
  have hio : ∀ e ∈ its, OddOk m e := by
    intro e he
    rw [hits] at he
    rcases (List.mem_append.mp he) with he | he
    · exact hodk e he
    · simp only [List.mem_cons, List.not_mem_nil, or_false] at he
      rcases he with rfl | rfl | rfl | rfl | rfl | rfl
      · exact ⟨fun _ => trivial, trivial, rfl⟩
      · exact ⟨fun _ => trivial, trivial, rfl⟩
      · exact ⟨fun _ => trivial, trivial, rfl⟩
      · exact odd_row [] fun k e he => absurd he (by simp)
      · exact odd_row _ fun k e he => by rw [List.mem_singleton.mp he]; trivial
      · exact odd_row _ fun k e he => cl_row (hsl e he)
  obtain ⟨o', fs, q, h1, h2⟩ := fill_forms (ib := ib) (m := m) (S1 := S3) (k := S.length) (os := some (.lst od)) (o := none) hl hn (at_ := at_) (by omega) hE.len.symm its its hio (by rw [hits, hod]; simp) hfo (by simp [f0])
  obtain ⟨ye, hye, hyn⟩ : ∃ ys : List D, (∀ T, zLst (zCons (zTup zNil) (zCons (zSl (zVar 1) (zPart (zC (.int 1))) zNoPart) (zCons (zSl (zVar 1) zNoPart (zPart (zUn dNeg (zC (.int 1))))) zNil))) (fE ib row m (some (.ptr S.length)) (some (dN at_)) (some (.lst od)) o') T = .ok (.lst ys) T) ∧ (∀ d ∈ ys, Wr n m d) ∧ ys.length ≤ 3 := by
    refine ⟨[.tup [], .tup (Z.cutD (row.map dN) (some (1 : Int)) none), .tup (Z.cutD (row.map dN) none (some (-1)))], fun T => lst_n (cons_n (tup_n nil_n (by simp [bigN])) (cons_n rfl (one_n rfl))) (by simp [bigN]), fun d hd => ?_, by simp⟩
    have k2 := cut_drop (row.map dN) (v := 1) (by simp; omega)
    have k3 := cut_last (row.map dN) (by simp; omega)
    have sub : ∀ {lo hi}, ∀ e ∈ Z.cutD (row.map dN) lo hi, e ∈ row.map dN := fun e he => List.mem_of_mem_drop (List.mem_of_mem_take he)
    have mk : ∀ l : List D, (∀ e ∈ l, e ∈ row.map dN) → l.length ≠ n → l.length ≤ 64 → Wr n m (.tup l) := fun l hs hne hb => ⟨fun k => cls_all fun e he => cl_row (hs e he), .inr ⟨l, rfl, by unfold bigN; omega, fun e he => simp_row e (hs e he), .inl hne⟩⟩
    simp only [List.mem_cons, List.not_mem_nil, or_false] at hd
    rcases hd with rfl | rfl | rfl
    · exact mk [] (fun e he => absurd he (by simp)) (by simp; omega) (by simp)
    · refine mk _ sub ?_ ?_
      · rw [show ((1 : Int)) = ((1 : Nat) : Int) from rfl, k2]; simp; omega
      · rw [show ((1 : Int)) = ((1 : Nat) : Int) from rfl, k2]; simp; omega
    · refine mk _ sub ?_ ?_
      · rw [k3]; simp; omega
      · rw [k3]; simp; omega
  refine ⟨fs ++ ye, S3, Fof_eff (L := [.lst fs]) (L' := [.lst fs]) (seq_n s0 (seq_n (if_f c0 rfl) (seq_n s1 (seq_n s2 (seq_n (zFor_n s3 q) (ret_n (op_n (d := .ptr S.length) rfl (hye _) (add_last hE.len.symm (by unfold bigN; omega))))))))) (by simp [frz]) hE (cl fun d hd => ?_), hE, fun d hd => ?_⟩
  · rcases List.mem_append.mp hd with h | h
    · exact h1 d h
    · exact hyn.1 d h
  · rcases List.mem_append.mp hd with h | h
    · exact h1 d h
    · exact hyn.1 d h
end
end K09

namespace K09
open PySem L2 Z K06 K07 K10
open PySem.Spec PyProof.Rows
variable [Tabs]
section
variable {n m ib : Nat} {S : Sto}
noncomputable def frI : SM := (zIfS (zNot (zTru (zCallF 2 (F__law_same 8) (zCons (zCallF 4 F__law_asked (zCons (zVar 1) (zCons (zVar 2) (zCons (zVar 5) (zCons (zOp dEq (zCallF 2 F__law_take (zCons (zVar 0) (zCons (zC (.int 4)) zNil))) (zC (.int 0))) zNil))))) (zCons (zTup (zCons (zC (.str "bad")) (zCons (zC .non) zNil))) zNil))))) (zRet (zC (.bl false))) zNext)
noncomputable def frB : SM := (zFor (zSrc (zCallF 3 F__law_forms (zCons (zVar 0) (zCons (zVar 4) (zCons (zOp dIx (zOp dGetD (zVar 2) (zC (.str "order"))) (zC (.int 0))) zNil))))) (zgName 5) frI)
theorem eval_forms_right {d1 d2 : D} {rs : List (List Nat)} (hP : PoolAt ib S) (hn : n ≤ 64) (hm : m ≤ 64) (h1 : SpOk n d1) (h2 : SpOk m d2) (hr : ∀ r ∈ rs, r.length = n) :
    ∃ S', F__law_forms_right [.ptr ib, d1, d2, .lst (rs.map rwD)] S = .ok (.bl true) S' ∧ Eff ib S S' := by
  obtain ⟨w, nm, _, _, rfl⟩ := h1
  obtain ⟨w2, nm2, _, _, rfl⟩ := h2
  obtain ⟨rd, hrd⟩ : ∃ rd : D, rd = .lst (rs.map rwD) := ⟨_, rfl⟩
  obtain ⟨env', T', ⟨a, b, rfl, hE⟩, q⟩ := loop_d (b := frB) (g := zgName 4) (N := (rs.map rwD).length) (P := fun _ env T => ∃ a b, env = [some (.ptr ib), some (spD n w nm), some (spD m w2 nm2), some rd, a, b] ∧ Eff ib S T) (rs.map rwD) (rs.map rwD) 0 [some (.ptr ib), some (spD n w nm), some (spD m w2 nm2), some rd, none, none] S (by omega) (by
    rintro r hr' i env T _ ⟨a, b, rfl, hE⟩
    obtain ⟨row, hrow, rfl⟩ := List.mem_map.mp hr'
    obtain ⟨fs, T1, f1, f2, f3⟩ := eval_forms (row := row) (m := m) hE.at_ (hr row hrow) hn hm
    obtain ⟨env', T', ⟨b', rfl, hE'⟩, q⟩ := loop_d (b := frI) (g := zgName 5) (N := fs.length) (P := fun _ env T => ∃ b, env = [some (.ptr ib), some (spD n w nm), some (spD m w2 nm2), some rd, some (rwD row), b] ∧ Eff ib S T) fs fs 0 [some (.ptr ib), some (spD n w nm), some (spD m w2 nm2), some rd, some (rwD row), b] T1 (by omega) (by
      rintro e he i env T _ ⟨b, rfl, hE⟩
      obtain ⟨t, T2, g1, g2, g3⟩ := eval_take hE.at_ (many := 4) (by decide) (by decide)
      refine ⟨[some (.ptr ib), some (spD n w nm), some (spD m w2 nm2), some rd, some (rwD row), some e], [some (.ptr ib), some (spD n w nm), some (spD m w2 nm2), some rd, some (rwD row), some e], T2, rfl, ?_, _, rfl, hE.trans g2⟩
      exact if_f (not_n (truB_n (callF2 (callF4 rfl rfl rfl (op_n (d := dN t) (d1 := .int 0) (callF2 rfl rfl g1) rfl (eq0_N t T2)) (wr_ask (f3 e he) _ T2)) (tup2_n rfl rfl) (same_bad T2)))) rfl) ⟨b, rfl, hE.trans f2⟩
    refine ⟨[some (.ptr ib), some (spD n w nm), some (spD m w2 nm2), some rd, some (rwD row), b], _, T', rfl, zFor_n (src_l (callF3 rfl rfl (sp_on rfl) f1)) q, _, _, rfl, hE'⟩) ⟨none, none, rfl, Eff.rfl' hP⟩
  subst hrd
  exact ⟨T', Fof_eff0 (ib := ib) (seq_n (zFor_n (src_l (xs := rs.map rwD) rfl) q) (ret_n rfl)) hE trivial, hE⟩
/-! ### great orders -/
def gE (ib : Nat) (a b c d e j x r : Option D) : En := [some (.ptr ib), a, b, c, d, e, j, x, r]
noncomputable def grB : SM := (zSeq (zSet 6 (zCall dMin2 (zCons (zOp dSub (zVar 4) (zC (.int 1))) (zCons (zOp dAdd (zCall dInt (zCons (zVar 6) zNil)) (zCallF 2 F__law_take (zCons (zVar 0) (zCons (zC (.int 3)) zNil)))) zNil))))
    (zPut (zVar 5) (zVar 7) (zOp dIx (zOp dGetD (zVar 3) (zC (.str "names"))) (zVar 6))))
theorem min_N (a b : Nat) (S : Sto) : dMin2 [dN a, dN b] S = .ok (dN (min a b)) S := by
  show Rs.ok (D.int (if ((b : Nat) : Int) < ((a : Nat) : Int) then ((b : Nat) : Int) else ((a : Nat) : Int))) S = Rs.ok (D.int ((min a b : Nat) : Int)) S
  congr 2
  split <;> omega
theorem eval_great (hP : PoolAt ib S) : ∃ S', F__law_great_right [.ptr ib] S = .ok (.bl true) S' ∧ Eff ib S S' := by
  obtain ⟨a, S1, a1, a2, a3⟩ := eval_take hP (many := 56) (by decide) (by decide)
  obtain ⟨n, hn⟩ : ∃ n, n = 9 + a := ⟨_, rfl⟩
  obtain ⟨b, S2, b1, b2, b3⟩ := eval_take a2.at_ (many := (n : Int)) (by omega) (by omega)
  obtain ⟨d1, S3, c1, c2, c3⟩ := eval_floors b2.at_ (n := n) (wd := 1 + b) (by omega) (by omega) (by omega)
  obtain ⟨k, S4, e1, e2, e3⟩ := eval_take c2.at_ (many := 64) (by decide) (by decide)
  obtain ⟨m, hm⟩ : ∃ m, m = 1 + k := ⟨_, rfl⟩
  obtain ⟨d2, S5, f1, f2, f3⟩ := eval_floors e2.at_ (n := m) (wd := 1) (by omega) (by omega) (by omega)
  obtain ⟨w, nm, n1, n2, rfl⟩ := id c3
  obtain ⟨w2, nm2, m1, m2, rfl⟩ := id f3
  have hE5 : Eff ib S S5 := (((a2.trans b2).trans c2).trans e2).trans f2
  have g1 : zSet 1 (zOp dAdd (zC (.int 9)) (zCallF 2 F__law_take (zCons (zVar 0) (zCons (zC (.int 56)) zNil)))) (gE ib none none none none none none none none) S = .mk (.next (gE ib (some (dN n)) none none none none none none none)) S1 := by
    rw [hn]; exact set_n (op_n (d := dN 9) rfl (callF2 rfl rfl a1) (K10.add_N 9 a S1))
  have g2 : zSet 2 (zCallF 3 F__law_floors (zCons (zVar 0) (zCons (zVar 1) (zCons (zOp dAdd (zC (.int 1)) (zCallF 2 F__law_take (zCons (zVar 0) (zCons (zVar 1) zNil)))) zNil)))) (gE ib (some (dN n)) none none none none none none none) S1 = .mk (.next (gE ib (some (dN n)) (some (spD n w nm)) none none none none none none)) S3 :=
    set_n (callF3 rfl rfl (op_n (d := dN 1) rfl (callF2 rfl rfl b1) (K10.add_N 1 b S2)) c1)
  have g3 : zSet 3 (zCallF 3 F__law_floors (zCons (zVar 0) (zCons (zOp dAdd (zC (.int 1)) (zCallF 2 F__law_take (zCons (zVar 0) (zCons (zC (.int 64)) zNil)))) (zCons (zC (.int 1)) zNil)))) (gE ib (some (dN n)) (some (spD n w nm)) none none none none none none) S3 = .mk (.next (gE ib (some (dN n)) (some (spD n w nm)) (some (spD m w2 nm2)) none none none none none)) S5 := by
    refine set_n (callF3 rfl (op_n (d := dN 1) rfl (callF2 rfl rfl e1) (R := .ok (dN m) S4) ?_) (d2 := dN 1) rfl f1)
    rw [hm]; exact K10.add_N 1 k S4
  have g4 : zSet 4 (zOp dIx (zOp dGetD (zVar 3) (zC (.str "order"))) (zC (.int 0))) (gE ib (some (dN n)) (some (spD n w nm)) (some (spD m w2 nm2)) none none none none none) S5 = .mk (.next (gE ib (some (dN n)) (some (spD n w nm)) (some (spD m w2 nm2)) (some (dN m)) none none none none)) S5 := set_n (sp_on rfl)
  have hz : ((List.range n).map fun _ => dN 0) = (List.replicate n 0).map dN := List.ext_getElem (by simp) fun i _ _ => by simp
  have g5 : zSet 5 (zLcK .cel [7] (zRange1 (zCons (zVar 1) zNil)) (zgName 7) zYes (zC (.int 0))) (gE ib (some (dN n)) (some (spD n w nm)) (some (spD m w2 nm2)) (some (dN m)) none none none none) S5 = .mk (.next (gE ib (some (dN n)) (some (spD n w nm)) (some (spD m w2 nm2)) (some (dN m)) (some (.ptr S5.length)) none none none)) (S5 ++ [.lst ((List.replicate n 0).map dN)]) := by
    rw [← hz]
    exact set_n ((lcK_mk (k := .cel) (L := List.range n) (mk := dN) (v := fun _ => dN 0) (rng1 (n := n) (by omega) rfl) (by simp [bigN]; omega) fun y hy => ⟨_, rfl, rfl⟩).trans rfl)
  have g6 : zSet 6 (zC (.int 0)) (gE ib (some (dN n)) (some (spD n w nm)) (some (spD m w2 nm2)) (some (dN m)) (some (.ptr S5.length)) none none none) (S5 ++ [.lst ((List.replicate n 0).map dN)]) = .mk (.next (gE ib (some (dN n)) (some (spD n w nm)) (some (spD m w2 nm2)) (some (dN m)) (some (.ptr S5.length)) (some (dN 0)) none none)) (S5 ++ [.lst ((List.replicate n 0).map dN)]) := set_n rfl
  obtain ⟨env', T', ⟨j, x, S6, row, rfl, rfl, hE6, hl, hrm, hj⟩, q⟩ := loop_d (b := grB) (g := zgName 7) (N := (nm.map dN).length) (P := fun _ env T => ∃ (j : Nat) (x : Option D) (S6 : Sto) (row : List Nat), env = gE ib (some (dN n)) (some (spD n w nm)) (some (spD m w2 nm2)) (some (dN m)) (some (.ptr S5.length)) (some (dN j)) x none ∧ T = S6 ++ [.lst (row.map dN)] ∧ Eff ib S5 S6 ∧ row.length = n ∧ (∀ x ∈ row, x < m) ∧ j < m) (nm.map dN) (nm.map dN) 0
      (gE ib (some (dN n)) (some (spD n w nm)) (some (spD m w2 nm2)) (some (dN m)) (some (.ptr S5.length)) (some (dN 0)) none none) (S5 ++ [.lst ((List.replicate n 0).map dN)]) (by omega) (by
    rintro e he i env T _ ⟨j, x, S6, row, rfl, rfl, hE6, hl, hrm, hj⟩
    obtain ⟨y, hy, rfl⟩ := List.mem_map.mp he
    have hy' := n2 y hy
    obtain ⟨t, T1, t1, t2, t3⟩ := eval_take (PoolAt.app hE6.at_ [.lst (row.map dN)]) (many := 3) (by decide) (by decide)
    obtain ⟨S7, rfl, e7⟩ := t2.split (PoolAt.lt hE6.at_)
    have hj' : min (m - 1) (j + t) < m := by omega
    refine ⟨gE ib (some (dN n)) (some (spD n w nm)) (some (spD m w2 nm2)) (some (dN m)) (some (.ptr S5.length)) (some (dN j)) (some (dN y)) none, _, _, rfl, seq_n (set_n (call_n (cons_n (op_n (d := dN m) (d1 := dN 1) rfl rfl (sub_N (by omega) _)) (one_n (op_n (d := dN j) (call_n (one_n rfl) rfl) (callF2 rfl rfl t1) (K10.add_N j t _)))) (min_N _ _ _))) (putL_n (d := dN (nm2[min (m - 1) (j + t)]!)) (d1 := .ptr S5.length) (d2 := dN y) (op_n (sp_n rfl) rfl ((nm_at (i := min (m - 1) (j + t)) (by omega) _).trans (by rw [getElem!_pos nm2 _ (by omega)]))) rfl rfl (stSet_last (by rw [e7.len, hE6.len]) (by omega))), _, some (dN y), S7, _, rfl, rfl, hE6.trans e7, by rw [List.length_set, hl], fun z hz => ?_, hj'⟩
    rcases List.mem_or_eq_of_mem_set hz with h | h
    · exact hrm z h
    · rw [h, getElem!_pos nm2 _ (by omega)]; exact m2 _ (List.getElem_mem _)) ⟨0, none, S5, _, rfl, rfl, Eff.rfl' f2.at_, by simp, fun z hz => by rw [List.eq_of_mem_replicate hz]; omega, by omega⟩
  have rin : RowIn ib (S6 ++ [.lst (row.map dN)]) (.ptr S5.length) row := .inr ⟨_, rfl, by have := PoolAt.lt f2.at_; omega, by rw [← hE6.len, List.getElem?_append_right (Nat.le_refl _)]; simp⟩
  obtain ⟨r1, T1, h1, h2, row1, l1, b1', rfl⟩ := eval_changed (m := m) (many := 1) (PoolAt.app hE6.at_ [.lst (row.map dN)]) rin (by omega) hl (by omega) (by omega) (by omega) hrm
  obtain ⟨r2, T2, i1, i2, row2, l2, b2', rfl⟩ := eval_changed (m := m) (many := 2) h2.at_ (rin.eff h2) (by omega) hl (by omega) (by omega) (by omega) hrm
  have g7 : zSet 8 (zLst (zCons (zCall dTuple (zCons (zVar 5) zNil)) (zCons (zCallF 4 F__law_changed (zCons (zVar 0) (zCons (zVar 5) (zCons (zC (.int 1)) (zCons (zVar 4) zNil))))) (zCons (zCallF 4 F__law_changed (zCons (zVar 0) (zCons (zVar 5) (zCons (zC (.int 2)) (zCons (zVar 4) zNil))))) zNil))))
      (gE ib (some (dN n)) (some (spD n w nm)) (some (spD m w2 nm2)) (some (dN m)) (some (.ptr S5.length)) (some (dN j)) x none) (S6 ++ [.lst (row.map dN)]) = .mk (.next (gE ib (some (dN n)) (some (spD n w nm)) (some (spD m w2 nm2)) (some (dN m)) (some (.ptr S5.length)) (some (dN j)) x (some (.lst [rwD row, rwD row1, rwD row2])))) T2 :=
    set_n (lst_n (cons_n (call_n (one_n rfl) (dTup_last hE6.len.symm)) (cons_n (callF4 rfl rfl (d2 := dN 1) rfl rfl h1) (one_n (callF4 rfl rfl (d2 := dN 2) rfl rfl i1)))) (by simp [bigN]))
  have rr := eval_rows (dp := .ptr ib) (S := T2) (rs := [rwD row, rwD row1, rwD row2]) (dr := .lst [rwD row, rwD row1, rwD row2]) (by omega) (by omega) c3 f3 (by
    intro r hr
    simp only [List.mem_cons, List.not_mem_nil, or_false] at hr
    rcases hr with rfl | rfl | rfl
    · exact ⟨row, hl, hrm, rfl⟩
    · exact ⟨row1, l1, b1', rfl⟩
    · exact ⟨row2, l2, b2', rfl⟩) (.inl rfl)
  obtain ⟨T3, k1, k2⟩ := eval_forms_right (rs := [row]) i2.at_ (by omega) (by omega) c3 f3 (fun r hr => by rw [List.mem_singleton.mp hr]; exact hl)
  have hE : Eff ib (S6 ++ [.lst (row.map dN)]) T3 := (h2.trans i2).trans k2
  obtain ⟨S8, rfl, e8⟩ := hE.split (PoolAt.lt hE6.at_)
  refine ⟨S8, Fof_effL (L := [.lst (row.map dN)]) (seq_n g1 (seq_n g2 (seq_n g3 (seq_n g4 (seq_n g5 (seq_n g6 (seq_n (zFor_n (src_l (sp_n rfl)) q) (seq_n g7 (ret_n (andV_n (callF4 rfl rfl rfl rfl rr) (callF4 rfl rfl rfl rfl k1)))))))))))  ((hE5.trans hE6).trans e8) trivial, (hE5.trans hE6).trans e8⟩
end
end K09

namespace K09
open PySem L2 Z K06 K07 K10
open PySem.Spec PyProof.Rows
variable [Tabs]
theorem mulT_n {n : Nat} (h0 : 0 < n) (h : n ≤ 64) (S : Sto) : dMulT (.tup [.int 0]) (dN n) S = .ok (rwD (List.replicate n 0)) S := by
  have c : 0 < ([D.int 0]).length ∧ 1 ≤ (n : Int) ∧ (n : Int) ≤ 1000 ∧ ([D.int 0]).length ≤ 1000 := ⟨by simp, by omega, by omega, by simp⟩
  show (if 0 < ([D.int 0]).length ∧ 1 ≤ (n : Int) ∧ (n : Int) ≤ 1000 ∧ ([D.int 0]).length ≤ 1000 then Rs.ok (D.tup (List.replicate (n : Int).toNat [D.int 0]).flatten) S else .stk) = _
  rw [if_pos c, Int.toNat_natCast]
  congr 2
  rw [List.map_replicate]
  show (List.replicate n [D.int 0]).flatten = List.replicate n (D.int 0)
  simp
def lE (ns : List Int) (f s n m r rs : Option D) : En := [some (.rol ns), some (.ptr 0), f, s, n, m, r, rs, none]
theorem eval_law {ns : List Int} (hns : ns.length ≤ 63) : ∃ S, F_law [.rol ns] [] = .ok (.bl true) S := by
  obtain ⟨S1, p1, p2⟩ := eval_pool hns
  obtain ⟨t, S2, t1, t2, t3⟩ := eval_take p2 (many := 8) (by decide) (by decide)
  have fin : ∀ {S3 : Sto}, run_law (startE N_law [.rol ns]) [] = .mk (.ret (.bl true)) S3 → ∃ S, F_law [.rol ns] [] = .ok (.bl true) S := fun {S3} run => ⟨_, Fof_pure (L := S3) (L' := S3) (S0 := []) run (by unfold frz; rfl) trivial⟩
  have s0 : zSet 1 (zCallF 1 F__law_pool (zCons (zVar 0) zNil)) (startE N_law [.rol ns]) [] = .mk (.next (lE ns none none none none none none)) S1 := set_n (callF1 rfl p1)
  have c0 : zB (zOp dEq (zCallF 2 F__law_take (zCons (zVar 1) (zCons (zC (.int 8)) zNil))) (zC (.int 0))) (lE ns none none none none none none) S1 = .ok (decide (t = 0)) S2 := b_n (op_n (d := dN t) (d1 := .int 0) (callF2 rfl rfl t1) rfl (eq0_N t S2))
  by_cases h0 : t = 0
  · obtain ⟨S3, g1, g2⟩ := eval_great t2.at_
    rw [decide_eq_true h0] at c0
    exact fin (S3 := S3) (seq_n s0 (seq_r (if_t c0 (ret_n (callF1 rfl g1)))))
  rw [decide_eq_false h0] at c0
  obtain ⟨n, S3, a1, a2, a3⟩ := eval_take t2.at_ (many := 9) (by decide) (by decide)
  obtain ⟨d1, S4, b1, b2, b3⟩ := eval_drawn (n := n) a2.at_ (by omega)
  obtain ⟨m, S5, e1, e2, e3⟩ := eval_take b2.at_ (many := 9) (by decide) (by decide)
  obtain ⟨d2, S6, f1, f2, f3⟩ := eval_drawn (n := m) e2.at_ (by omega)
  obtain ⟨w, nm, n1, n2, rfl⟩ := id b3
  obtain ⟨w2, nm2, m1, m2, rfl⟩ := id f3
  have s1 : zSet 2 (zCallF 2 F__law_drawn (zCons (zVar 1) (zCons (zCallF 2 F__law_take (zCons (zVar 1) (zCons (zC (.int 9)) zNil))) zNil))) (lE ns none none none none none none) S2 = .mk (.next (lE ns (some (spD n w nm)) none none none none none)) S4 := set_n (callF2 rfl (callF2 rfl rfl a1) b1)
  have s2 : zSet 3 (zCallF 2 F__law_drawn (zCons (zVar 1) (zCons (zCallF 2 F__law_take (zCons (zVar 1) (zCons (zC (.int 9)) zNil))) zNil))) (lE ns (some (spD n w nm)) none none none none none) S4 = .mk (.next (lE ns (some (spD n w nm)) (some (spD m w2 nm2)) none none none none)) S6 := set_n (callF2 rfl (callF2 rfl rfl e1) f1)
  have s3 : zSet 4 (zOp dIx (zOp dGetD (zVar 2) (zC (.str "order"))) (zC (.int 0))) (lE ns (some (spD n w nm)) (some (spD m w2 nm2)) none none none none) S6 = .mk (.next (lE ns (some (spD n w nm)) (some (spD m w2 nm2)) (some (dN n)) none none none)) S6 := set_n (sp_on rfl)
  have s4 : zSet 5 (zOp dIx (zOp dGetD (zVar 3) (zC (.str "order"))) (zC (.int 0))) (lE ns (some (spD n w nm)) (some (spD m w2 nm2)) (some (dN n)) none none none) S6 = .mk (.next (lE ns (some (spD n w nm)) (some (spD m w2 nm2)) (some (dN n)) (some (dN m)) none none)) S6 := set_n (sp_on rfl)
  have q1 : zB (zOp dEq (zVar 5) (zC (.int 0))) (lE ns (some (spD n w nm)) (some (spD m w2 nm2)) (some (dN n)) (some (dN m)) none none) S6 = .ok (decide (m = 0)) S6 := b_n (op_n (d := dN m) (d1 := .int 0) rfl rfl (eq0_N m S6))
  have q2 : zB (zOp dGt (zVar 4) (zC (.int 0))) (lE ns (some (spD n w nm)) (some (spD m w2 nm2)) (some (dN n)) (some (dN m)) none none) S6 = .ok (decide (0 < n)) S6 := by
    refine b_n (op_n (d := dN n) (d1 := .int 0) rfl rfl ?_)
    show Rs.ok (D.bl (decide ((0 : Int) < ((n : Nat) : Int)))) S6 = _
    simp
  by_cases hz : m = 0 ∧ 0 < n
  · obtain ⟨S7, k1, k2⟩ := eval_forms_right (rs := [List.replicate n 0]) f2.at_ (by omega) (by omega) b3 f3 (fun r hr => by rw [List.mem_singleton.mp hr]; simp)
    rw [decide_eq_true hz.1] at q1
    rw [decide_eq_true hz.2] at q2
    exact fin (S3 := S7) (seq_n s0 (seq_n (if_f c0 rfl) (seq_n s1 (seq_n s2 (seq_n s3 (seq_n s4 (seq_r (if_t (and_n q1 q2) (ret_n (callF4 rfl rfl rfl (lst_n (one_n (op_n (tup_n (one_n rfl) (by simp [bigN])) rfl (mulT_n hz.2 (by omega) S6))) (by simp [bigN])) k1))))))))))
  have hnm : 0 < n → 0 < m := fun h => Nat.pos_of_ne_zero fun e => hz ⟨e, h⟩
  have cz : zAnd (zB (zOp dEq (zVar 5) (zC (.int 0)))) (zB (zOp dGt (zVar 4) (zC (.int 0)))) (lE ns (some (spD n w nm)) (some (spD m w2 nm2)) (some (dN n)) (some (dN m)) none none) S6 = .ok false S6 := by
    by_cases hm0 : m = 0
    · rw [decide_eq_true hm0] at q1
      rw [decide_eq_false (fun h => hz ⟨hm0, h⟩)] at q2
      exact and_n q1 q2
    · rw [decide_eq_false hm0] at q1
      exact and_f q1
  obtain ⟨r0, S7, g1, g2, row, l0, l1, rfl⟩ := eval_map f2.at_ (by omega) (by omega) hnm b3 f3
  obtain ⟨r1, S8, h1, h2, row1, l2, l3, rfl⟩ := eval_changed (m := m) (many := 1) g2.at_ (.inl rfl) (by omega) l0 (by omega) (by omega) hnm l1
  obtain ⟨r2, S9, i1, i2, row2, l4, l5, rfl⟩ := eval_changed (m := m) (many := 2) h2.at_ (.inl rfl) (by omega) l0 (by omega) (by omega) hnm l1
  have s5 : zSet 6 (zCallF 3 F__law_map (zCons (zVar 1) (zCons (zVar 2) (zCons (zVar 3) zNil)))) (lE ns (some (spD n w nm)) (some (spD m w2 nm2)) (some (dN n)) (some (dN m)) none none) S6 = .mk (.next (lE ns (some (spD n w nm)) (some (spD m w2 nm2)) (some (dN n)) (some (dN m)) (some (rwD row)) none)) S7 := set_n (callF3 rfl rfl rfl g1)
  have s6 : zSet 7 (zLstC (zCons (zVar 6) (zCons (zCallF 4 F__law_changed (zCons (zVar 1) (zCons (zVar 6) (zCons (zC (.int 1)) (zCons (zVar 5) zNil))))) (zCons (zCallF 4 F__law_changed (zCons (zVar 1) (zCons (zVar 6) (zCons (zC (.int 2)) (zCons (zVar 5) zNil))))) zNil)))) (lE ns (some (spD n w nm)) (some (spD m w2 nm2)) (some (dN n)) (some (dN m)) (some (rwD row)) none) S7
      = .mk (.next (lE ns (some (spD n w nm)) (some (spD m w2 nm2)) (some (dN n)) (some (dN m)) (some (rwD row)) (some (.ptr S9.length)))) (S9 ++ [.lst [rwD row, rwD row1, rwD row2]]) :=
    set_n (lstC_n (cons_n rfl (cons_n (callF4 rfl rfl (d2 := dN 1) rfl rfl h1) (one_n (callF4 rfl rfl (d2 := dN 2) rfl rfl i1)))) (by simp [bigN]))
  obtain ⟨ds, S10, v1, v2, v3, v4⟩ := lcA_any (xs := (List.range n).map dN) (mk := dN) (g := zgName 8) (ft := zYes) (fe := zCallF 2 F__law_take (zCons (zVar 1) (zCons (zVar 5) zNil))) (env := lE ns (some (spD n w nm)) (some (spD m w2 nm2)) (some (dN n)) (some (dN m)) (some (rwD row)) (some (.ptr S9.length)))
    (P := fun T => Eff 0 (S9 ++ [.lst [rwD row, rwD row1, rwD row2]]) T) (V := fun _ d => ∃ v, d = dN v ∧ v < m) (List.range n) [] (S9 ++ [.lst [rwD row, rwD row1, rwD row2]]) (Eff.rfl' (PoolAt.app i2.at_ _)) (by simp [bigN]; omega) (by
      intro k hk T hT
      have := hnm (by have := List.mem_range.mp hk; omega)
      obtain ⟨v, T', w1, w2', w3⟩ := eval_take hT.at_ (many := (m : Int)) (by omega) (by omega)
      exact ⟨_, dN v, T', rfl, rfl, callF2 rfl rfl w1, ⟨v, rfl, by omega⟩, hT.trans w2'⟩)
  rw [List.nil_append] at v1
  rw [List.length_range] at v3
  obtain ⟨row3, rfl, l7⟩ := nats_of (Q := fun v => v < m) ds (fun d hd => by
    obtain ⟨i, hid, rfl⟩ := List.getElem_of_mem hd
    obtain ⟨d', h1, h2⟩ := v4 i i (by rw [List.getElem?_range (by omega)])
    rw [List.getElem?_eq_getElem hid] at h1
    cases h1
    exact h2)
  have l6 : row3.length = n := by rw [List.length_map] at v3; exact v3
  obtain ⟨S11, rfl, v5⟩ := v2.split (PoolAt.lt i2.at_)
  have s7 : zExpr (zMethL dAppend (zVar 7) (zCons (zCall dTuple (zCons (zLcK .frz [8] (zRange1 (zCons (zVar 4) zNil)) (zgName 8) zYes (zCallF 2 F__law_take (zCons (zVar 1) (zCons (zVar 5) zNil)))) zNil)) zNil)) (lE ns (some (spD n w nm)) (some (spD m w2 nm2)) (some (dN n)) (some (dN m)) (some (rwD row)) (some (.ptr S9.length))) (S9 ++ [.lst [rwD row, rwD row1, rwD row2]])
      = .mk (.next (lE ns (some (spD n w nm)) (some (spD m w2 nm2)) (some (dN n)) (some (dN m)) (some (rwD row)) (some (.ptr S9.length)))) (S11 ++ [.lst [rwD row, rwD row1, rwD row2, rwD row3]]) := by
    have lc : zLcK .frz [8] (zRange1 (zCons (zVar 4) zNil)) (zgName 8) zYes (zCallF 2 F__law_take (zCons (zVar 1) (zCons (zVar 5) zNil))) (lE ns (some (spD n w nm)) (some (spD m w2 nm2)) (some (dN n)) (some (dN m)) (some (rwD row)) (some (.ptr S9.length))) (S9 ++ [.lst [rwD row, rwD row1, rwD row2]]) = .ok (.lst (row3.map dN)) (S11 ++ [.lst [rwD row, rwD row1, rwD row2]]) := by
      rw [zLcK, rng1 (n := n) (by omega) rfl, Rs.bnd_ok]
      show ((lcA _ _ _ _ (lE ns (some (spD n w nm)) (some (spD m w2 nm2)) (some (dN n)) (some (dN m)) (some (rwD row)) (some (.ptr S9.length))) _ _ _).bnd _) = _
      rw [v1]; rfl
    exact expr_n (meth_n rfl (isP_last rfl) (one_n (tupOf_n lc)) (app_last v5.len.symm (by simp [bigN])))
  have at9 : (S11 ++ [C.lst [rwD row, rwD row1, rwD row2, rwD row3]])[S9.length]? = some (.lst [rwD row, rwD row1, rwD row2, rwD row3]) := by rw [← v5.len, List.getElem?_append_right (Nat.le_refl _)]; simp
  have rr := eval_rows (dp := .ptr 0) (S := S11 ++ [.lst [rwD row, rwD row1, rwD row2, rwD row3]]) (rs := [rwD row, rwD row1, rwD row2, rwD row3]) (dr := .ptr S9.length) (by omega) (by omega) b3 f3 (by
    intro r hr
    simp only [List.mem_cons, List.not_mem_nil, or_false] at hr
    rcases hr with rfl | rfl | rfl | rfl
    · exact ⟨row, l0, l1, rfl⟩
    · exact ⟨row1, l2, l3, rfl⟩
    · exact ⟨row2, l4, l5, rfl⟩
    · exact ⟨row3, l6, l7, rfl⟩) (.inr ⟨_, rfl, at9⟩)
  obtain ⟨S12, k1, k2⟩ := eval_forms_right (rs := [row, row3]) (PoolAt.app v5.at_ [.lst [rwD row, rwD row1, rwD row2, rwD row3]]) (by omega) (by omega) b3 f3 (fun r hr => by
    simp only [List.mem_cons, List.not_mem_nil, or_false] at hr
    rcases hr with rfl | rfl
    · exact l0
    · exact l6)
  have i3 : zOp dIx (zVar 7) (zC (.int 3)) (lE ns (some (spD n w nm)) (some (spD m w2 nm2)) (some (dN n)) (some (dN m)) (some (rwD row)) (some (.ptr S9.length))) (S11 ++ [.lst [rwD row, rwD row1, rwD row2, rwD row3]]) = .ok (rwD row3) (S11 ++ [.lst [rwD row, rwD row1, rwD row2, rwD row3]]) :=
    op_n (d1 := dN 3) rfl rfl (dIx_seq (i := 3) (xs := [rwD row, rwD row1, rwD row2, rwD row3]) (by simp [seqOf, at9]) rfl)
  exact fin (S3 := S12) (seq_n s0 (seq_n (if_f c0 rfl) (seq_n s1 (seq_n s2 (seq_n s3 (seq_n s4 (seq_n (if_f cz rfl) (seq_n s5 (seq_n s6 (seq_n s7 (ret_n (andV_n (callF4 rfl rfl rfl rfl rr) (callF4 rfl rfl rfl (lst2_n rfl i3) k1)))))))))))))
end K09

namespace K09
open PySem L2 Z K06 K10
open PySem.Spec PyProof.Rows
variable [Tabs]
def topS (i : Nat) : Stmt := PySem.Challenge.pw_strikecore_k09_least_wrong_pair.main.body.getD i (.Pass ⟨0, 0, 0, 0⟩)
structure Gc (mg : Mg) : Prop where
structure Cs where
  BadMap : Addr
  BadOrder : Addr
  RingFound : Addr
  StrikeError : Addr
  TooLarge : Addr
structure Xc (P : Program) (w : World) (K : PySem.W.Frag) (mg : Mg) (base : Heap) (cs : Cs) : Prop where
  g_BadMap : mg "BadMap" = some (.ref cs.BadMap)
  g_BadOrder : mg "BadOrder" = some (.ref cs.BadOrder)
  g_RingFound : mg "RingFound" = some (.ref cs.RingFound)
  g_StrikeError : mg "StrikeError" = some (.ref cs.StrikeError)
  g_TooLarge : mg "TooLarge" = some (.ref cs.TooLarge)
  n_ValueError : mg "ValueError" = none
  m_BadMap : MkC P w K mg base "pair" "BadMap"
  x_StrikeError : ∀ nm b, ([("BadMap", true)] : List (Str × Bool)).lookup nm = some b → ∀ Ca, mg nm = some (.ref Ca) → PySem.W.exmOne K (.ref Ca) (.ref cs.StrikeError) = some b
  f_pair : ∀ nm ∈ (["BadMap"] : List Str), FldC K mg "pair" nm
  i_0 : ∀ nm b, ([("BadMap", true)] : List (Str × Bool)).lookup nm = some b → IsC K mg [.ref cs.BadMap] nm b
  i_1 : ∀ nm b, ([("BadMap", true)] : List (Str × Bool)).lookup nm = some b → IsC K mg [.type "ValueError"] nm b
  i_2 : ∀ nm b, ([("BadMap", false)] : List (Str × Bool)).lookup nm = some b → IsC K mg [.ref cs.BadOrder, .ref cs.RingFound, .ref cs.TooLarge] nm b
section
variable {P : Program} {w : World} {K : PySem.W.Frag} {mg : Mg} {base : Heap}
theorem sc__law_same : FnScope N__law_same ["actual", "due"] (defScope (topS 24)) := ⟨rfl, rfl, rfl, by decide +kernel, rfl, by decide +kernel, by decide +kernel⟩
theorem fz__law_same {f : Addr} {fd : FuncData} (B : Bi mg) (G : Gc mg)  (gm : mg "_law_same" = some (.ref f)) (hF : Fun K "_law_same" "_law_same" (topS 24) f fd) (hb : Binds K fd ["actual", "due"] []) : ∀ k : Nat, FZ P w K mg base (0 + k) "_law_same" (topS 24) ["actual", "due"] (F__law_same k)
  | 0 => (fz_stk gm hF hb).mono (by omega)
  | k + 1 => by
    have sc := sc__law_same
    have h__law_same := fz__law_same B G  gm hF hb k
    refine fz_of (k := 0 + k) (run := run__law_same (F__law_same k)) 0 gm hF sc hb (fun cdv A outer s H E hr => ?_) (fun ds S0 _ => impl_of ds S0)
    have tk := takes_of (X := cxOf (L2.CX P w) P w K mg base N__law_same "_law_same" (defScope (topS 24)) f cdv A outer s H E) rfl rfl rfl rfl
    exact ⟨_, (zss_cons (zs_if (kzt_tru (K := K) rfl (kze_isi (K := K) (T := "tuple") rfl (by rfl) B.isinstance B.tuple (by decide +kernel) (zv 1))) (zss_cons (zs_if (ZW.zt (zw_or (zt_not (kzt_tru (K := K) rfl (kze_isi (K := K) (T := "tuple") rfl (by rfl) B.isinstance B.tuple (by decide +kernel) (zv 0)))) (zw_or1 (zt_cmp (kzo_ne (K := K) rfl hr) (ze_callB (kcall_len (K := K) rfl) cs_len (by rfl) B.len PySem.boot_len (za_cons (zv 0) za_nil)) (ze_callB (kcall_len (K := K) rfl) cs_len (by rfl) B.len PySem.boot_len (za_cons (zv 1) za_nil)))))) (zss_one (zs_ret ze_bl)) zss_nil)
      (zss_cons (zs_for (passes_of rfl) rfl (zi_range1 (by rfl) B.range (za_cons (ze_callB (kcall_len (K := K) rfl) cs_len (by rfl) B.len PySem.boot_len (za_cons (zv 1) za_nil)) za_nil)) (zg_name (i := 2) sc.nd) (zss_one (zs_if (zt_not (kzt_tru (K := K) rfl (kze_call (K := K) (mg := mg) rfl rfl rfl h__law_same hr (by rfl) tk (za_cons (kze_ix (K := K) rfl (zv 0) (zv 2)) (za_cons (kze_ix (K := K) rfl (zv 1) (zv 2)) za_nil))))) (zss_one (zs_ret ze_bl)) zss_nil)))
      (zss_one (zs_ret ze_bl)))) zss_nil)
      (zss_cons (zs_if (zt_cmp zo_isN (zv 1) ze_non) (zss_one (zs_ret (ze_cmp zo_isN (zv 0) ze_non))) zss_nil)
      (zss_cons (zs_if (kzt_tru (K := K) rfl (kze_isi (K := K) (T := "bool") rfl (by rfl) B.isinstance B.bool (by decide +kernel) (zv 1))) (zss_one (zs_ret (ze_and (kze_isi (K := K) (T := "bool") rfl (by rfl) B.isinstance B.bool (by decide +kernel) (zv 0)) (ze_one (ze_cmp (kzo_eq (K := K) rfl hr) (zv 0) (zv 1)))))) zss_nil)
      (zss_cons (zs_if (kzt_tru (K := K) rfl (kze_isi (K := K) (T := "str") rfl (by rfl) B.isinstance B.str (by decide +kernel) (zv 1))) (zss_one (zs_ret (ze_and (kze_isi (K := K) (T := "str") rfl (by rfl) B.isinstance B.str (by decide +kernel) (zv 0)) (ze_one (ze_cmp (kzo_eq (K := K) rfl hr) (zv 0) (zv 1)))))) zss_nil)
      (zss_one (zs_ret (ze_and (kze_isi (K := K) (T := "int") rfl (by rfl) B.isinstance B.int (by decide +kernel) (zv 0)) (ze_and (ze_not (kze_isi (K := K) (T := "bool") rfl (by rfl) B.isinstance B.bool (by decide +kernel) (zv 0))) (ze_one (ze_cmp (kzo_eq (K := K) rfl hr) (zv 0) (zv 1)))))))))))⟩
theorem sc_masks_above : FnScope N_masks_above ["order"] (defScope (topS 7)) := ⟨rfl, rfl, rfl, by decide +kernel, rfl, by decide +kernel, by decide +kernel⟩
theorem fz_masks_above {f : Addr} {fd : FuncData} (B : Bi mg) (G : Gc mg)  (gm : mg "masks_above" = some (.ref f)) (hF : Fun K "masks_above" "masks_above" (topS 7) f fd) (hb : Binds K fd ["order"] []) : FZ P w K mg base 1 "masks_above" (topS 7) ["order"] F_masks_above := by
  have sc := sc_masks_above
  refine fz_of (run := run_masks_above) 1 gm hF sc hb (fun cdv A outer s H E hr => ?_) (fun ds S0 _ => impl_of ds S0)
  have tk := takes_of (X := cxOf (L2.CX P w) P w K mg base N_masks_above "masks_above" (defScope (topS 7)) f cdv A outer s H E) rfl rfl rfl rfl
  exact ⟨_, (zss_cons (zs_asg (zv 0) (zg_tupK (K := K) rfl rfl (zgs_cons (zg_name (i := 2) sc.nd) (zgs_cons (zg_name (i := 3) sc.nd) zgs_nil))))
    (zss_cons (zs_set (i := 1) sc.nd (ze_op zo_mulC (ze_lst (za_cons ze_int za_nil)) (zv 2)))
    (zss_cons (zs_for (passes_of rfl) rfl (kzi_src (K := K) rfl (zv 3)) (zg_tupK (K := K) rfl rfl (zgs_cons (zg_name (i := 4) sc.nd) (zgs_cons (zg_name (i := 5) sc.nd) zgs_nil))) (zss_one (zs_augS (zv 1) (zv 4) (ze_op zo_shl ze_int (zv 5)) zi_or)))
    (zss_one (zs_ret (zv 1))))))⟩
theorem sc_with_selves : FnScope N_with_selves ["masks"] (defScope (topS 8)) := ⟨rfl, rfl, rfl, by decide +kernel, rfl, by decide +kernel, by decide +kernel⟩
theorem fz_with_selves {f : Addr} {fd : FuncData} (B : Bi mg) (G : Gc mg)  (gm : mg "with_selves" = some (.ref f)) (hF : Fun K "with_selves" "with_selves" (topS 8) f fd) (hb : Binds K fd ["masks"] []) : FZ P w K mg base 1 "with_selves" (topS 8) ["masks"] F_with_selves := by
  have sc := sc_with_selves
  refine fz_of (run := run_with_selves) 0 gm hF sc hb (fun cdv A outer s H E hr => ?_) (fun ds S0 _ => impl_of ds S0)
  have tk := takes_of (X := cxOf (L2.CX P w) P w K mg base N_with_selves "with_selves" (defScope (topS 8)) f cdv A outer s H E) rfl rfl rfl rfl
  exact ⟨_, (zss_one (zs_ret (ze_lc (own := [("x", 1), ("mask", 2)]) (k := .frz) rfl rfl sc.nd (kzi_enum (K := K) rfl (by rfl) B.enumerate (za_cons (zv 0) za_nil)) (by first | exact blkOk_by (N := N_with_selves) (sc := defScope (topS 8)) (by decide +kernel) | exact blkOk_by (by with_unfolding_all rfl)) (fun _ _ _ _ _ => (zg_tupK (K := K) rfl rfl (zgs_cons (zg_name (i := 1) sc.nd) (zgs_cons (zg_name (i := 2) sc.nd) zgs_nil)))) (fun _ _ _ _ _ => zts_nil) (fun _ _ _ _ _ => (ze_op zo_or (zv 2) (ze_op zo_shl ze_int (zv 1)))))))⟩
theorem sc_falling_pair : FnScope N_falling_pair ["first", "higher", "row"] (defScope (topS 12)) := ⟨rfl, rfl, rfl, by decide +kernel, rfl, by decide +kernel, by decide +kernel⟩
theorem fz_falling_pair {f : Addr} {fd : FuncData} (B : Bi mg) (G : Gc mg)  (gm : mg "falling_pair" = some (.ref f)) (hF : Fun K "falling_pair" "falling_pair" (topS 12) f fd) (hb : Binds K fd ["first", "higher", "row"] []) : FZ P w K mg base 1 "falling_pair" (topS 12) ["first", "higher", "row"] F_falling_pair := by
  have sc := sc_falling_pair
  refine fz_of (run := run_falling_pair) 0 gm hF sc hb (fun cdv A outer s H E hr => ?_) (fun ds S0 _ => impl_of ds S0)
  have tk := takes_of (X := cxOf (L2.CX P w) P w K mg base N_falling_pair "falling_pair" (defScope (topS 12)) f cdv A outer s H E) rfl rfl rfl rfl
  exact ⟨_, (zss_cons (zs_for (passes_of rfl) rfl (kzi_src (K := K) rfl (kze_ix (K := K) rfl (zv 0) ze_int)) (zg_tupK (K := K) rfl rfl (zgs_cons (zg_name (i := 3) sc.nd) (zgs_cons (zg_name (i := 4) sc.nd) zgs_nil))) (zss_one (zs_if (zt_not (kzt_tru (K := K) rfl (ze_op zo_and (ze_op zo_shr (kze_ix (K := K) rfl (zv 1) (kze_ix (K := K) rfl (zv 2) (zv 3))) (kze_ix (K := K) rfl (zv 2) (zv 4))) ze_int))) (zss_one (zs_ret (ze_tup (za_cons (zv 3) (za_cons (zv 4) za_nil))))) zss_nil)))
    (zss_one (zs_ret ze_non)))⟩
theorem sc__law_mixed : FnScope N__law_mixed ["number", "turn", "many"] (defScope (topS 14)) := ⟨rfl, rfl, rfl, by decide +kernel, rfl, by decide +kernel, by decide +kernel⟩
theorem fz__law_mixed {f : Addr} {fd : FuncData} (B : Bi mg) (G : Gc mg)  (gm : mg "_law_mixed" = some (.ref f)) (hF : Fun K "_law_mixed" "_law_mixed" (topS 14) f fd) (hb : Binds K fd ["number", "turn", "many"] []) : FZ P w K mg base 1 "_law_mixed" (topS 14) ["number", "turn", "many"] F__law_mixed := by
  have sc := sc__law_mixed
  refine fz_of (run := run__law_mixed) 0 gm hF sc hb (fun cdv A outer s H E hr => ?_) (fun ds S0 _ => impl_of ds S0)
  have tk := takes_of (X := cxOf (L2.CX P w) P w K mg base N__law_mixed "_law_mixed" (defScope (topS 14)) f cdv A outer s H E) rfl rfl rfl rfl
  exact ⟨_, (zss_cons (zs_set (i := 3) sc.nd ze_int)
    (zss_cons (zs_set (i := 4) sc.nd (ze_op zo_mod (ze_callT call_int1 cs_int (by rfl) B.int boot_int (za_cons (ze_op (kzo_add (K := K) rfl) (ze_op (kzo_add (K := K) rfl) (ze_op zo_mul (zv 0) ze_int) (ze_op zo_mul (zv 1) ze_int)) ze_int) za_nil)) (zv 3)))
    (zss_cons (zs_set (i := 5) sc.nd (ze_op zo_mod (ze_op zo_mul (ze_callT call_int1 cs_int (by rfl) B.int boot_int (za_cons (ze_op (kzo_add (K := K) rfl) (ze_op zo_mul (zv 4) (zv 4)) (zv 1)) za_nil)) ze_int) (zv 3)))
    (zss_one (zs_ret (ze_op zo_mod (ze_op zo_div (zv 5) ze_int) (zv 2)))))))⟩
theorem sc__law_pool : FnScope N__law_pool ["script"] (defScope (topS 15)) := ⟨rfl, rfl, rfl, by decide +kernel, rfl, by decide +kernel, by decide +kernel⟩
theorem fz__law_pool {f : Addr} {fd : FuncData} (B : Bi mg) (G : Gc mg)  (gm : mg "_law_pool" = some (.ref f)) (hF : Fun K "_law_pool" "_law_pool" (topS 15) f fd) (hb : Binds K fd ["script"] []) : FZ P w K mg base 1 "_law_pool" (topS 15) ["script"] F__law_pool := by
  have sc := sc__law_pool
  refine fz_of (run := run__law_pool) 0 gm hF sc hb (fun cdv A outer s H E hr => ?_) (fun ds S0 _ => impl_of ds S0)
  have tk := takes_of (X := cxOf (L2.CX P w) P w K mg base N__law_pool "_law_pool" (defScope (topS 15)) f cdv A outer s H E) rfl rfl rfl rfl
  exact ⟨_, (zss_cons (zs_set (i := 1) sc.nd ze_int)
    (zss_cons (zs_for (passes_of rfl) rfl (kzi_src (K := K) rfl (zv 0)) (zg_name (i := 2) sc.nd) (zss_one (zs_set (i := 1) sc.nd (ze_op zo_mod (ze_callT call_int1 cs_int (by rfl) B.int boot_int (za_cons (ze_op (kzo_add (K := K) rfl) (ze_op zo_mul (zv 1) ze_int) (zv 2)) za_nil)) ze_int))))
    (zss_one (zs_ret (ze_dict (ks := [.inr "cells", .inr "at", .inr "rest", .inr "left", .inr "odd", .inr "seed", .inr "turn"]) .cel (zd_str (ze_callT (kcall_list (K := K) rfl) cs_list (by rfl) B.list (by decide +kernel) (za_cons (zv 0) za_nil)) (zd_str ze_int (zd_str ze_int (zd_str ze_int (zd_str ze_bl (zd_str (zv 1) (zd_str ze_int zd_nil))))))) (by decide))))))⟩
theorem sc__law_space : FnScope N__law_space ["names", "up"] (defScope (topS 20)) := ⟨rfl, rfl, rfl, by decide +kernel, rfl, by decide +kernel, by decide +kernel⟩
theorem fz__law_space {f : Addr} {fd : FuncData} (B : Bi mg) (G : Gc mg)  (gm : mg "_law_space" = some (.ref f)) (hF : Fun K "_law_space" "_law_space" (topS 20) f fd) (hb : Binds K fd ["names", "up"] []) : FZ P w K mg base 1 "_law_space" (topS 20) ["names", "up"] F__law_space := by
  have sc := sc__law_space
  refine fz_of (run := run__law_space) 3 gm hF sc hb (fun cdv A outer s H E hr => ?_) (fun ds S0 _ => impl_of ds S0)
  have tk := takes_of (X := cxOf (L2.CX P w) P w K mg base N__law_space "_law_space" (defScope (topS 20)) f cdv A outer s H E) rfl rfl rfl rfl
  exact ⟨_, (zss_cons (zs_set (i := 2) sc.nd (ze_callB (kcall_len (K := K) rfl) cs_len (by rfl) B.len PySem.boot_len (za_cons (zv 0) za_nil)))
    (zss_cons (zs_set (i := 3) sc.nd (ze_lc (own := [("k", 9)]) (k := .cel) rfl rfl sc.nd (zi_range1 (by rfl) B.range (za_cons (zv 2) za_nil)) (by first | exact blkOk_by (N := N__law_space) (sc := defScope (topS 20)) (by decide +kernel) | exact blkOk_by (by with_unfolding_all rfl)) (fun _ _ _ _ _ => (zg_name (i := 9) sc.nd)) (fun _ _ _ _ _ => zts_nil) (fun _ _ _ _ _ => (ze_op zo_mulC (ze_lst (za_cons ze_int za_nil)) (zv 2)))))
    (zss_cons (zs_for (passes_of rfl) rfl (zi_range1 (by rfl) B.range (za_cons (zv 2) za_nil)) (zg_name (i := 4) sc.nd) (zss_cons (zs_set (i := 7) sc.nd (kze_ix (K := K) rfl (zv 3) (kze_ix (K := K) rfl (zv 0) (zv 4))))
    (zss_one (zs_for (passes_of rfl) rfl (zi_range1 (by rfl) B.range (za_cons (zv 2) za_nil)) (zg_name (i := 8) sc.nd) (zss_one (zs_put (zv 7) (kze_ix (K := K) rfl (zv 0) (zv 8)) (kze_ix (K := K) rfl (kze_ix (K := K) rfl (zv 1) (zv 4)) (zv 8))))))))
    (zss_cons (zs_set (i := 5) sc.nd (ze_lst za_nil))
    (zss_cons (zs_for (passes_of rfl) rfl (zi_range1 (by rfl) B.range (za_cons (zv 2) za_nil)) (zg_name (i := 6) sc.nd) (zss_one (zs_set (i := 5) sc.nd (ze_op (kzo_add (K := K) rfl) (zv 5) (ze_lc (own := [("y", 10)]) (k := .frz) rfl rfl sc.nd (zi_range1 (by rfl) B.range (za_cons (zv 2) za_nil)) (by first | exact blkOk_by (N := N__law_space) (sc := defScope (topS 20)) (by decide +kernel) | exact blkOk_by (by with_unfolding_all rfl)) (fun _ _ _ _ _ => (zg_name (i := 10) sc.nd)) (fun _ _ _ _ _ => (zts_one (zt_cmp (kzo_eq (K := K) rfl hr) (kze_ix (K := K) rfl (kze_ix (K := K) rfl (zv 3) (zv 6)) (zv 10)) ze_int))) (fun _ _ _ _ _ => (ze_tup (za_cons (zv 6) (za_cons (zv 10) za_nil)))))))))
    (zss_one (zs_ret (ze_dict (ks := [.inr "order", .inr "under", .inr "names"]) .frz (zd_str (ze_tup (za_cons (zv 2) (za_cons (ze_callT (kcall_tuple (K := K) rfl) kcs_tuple (by rfl) B.tuple (by decide +kernel) (za_cons (zv 5) za_nil)) za_nil))) (zd_str (zv 3) (zd_str (zv 0) zd_nil))) (by decide)))))))))⟩
theorem sc__law_leq : FnScope N__law_leq ["space", "a", "b"] (defScope (topS 21)) := ⟨rfl, rfl, rfl, by decide +kernel, rfl, by decide +kernel, by decide +kernel⟩
theorem fz__law_leq {f : Addr} {fd : FuncData} (B : Bi mg) (G : Gc mg)  (gm : mg "_law_leq" = some (.ref f)) (hF : Fun K "_law_leq" "_law_leq" (topS 21) f fd) (hb : Binds K fd ["space", "a", "b"] []) : FZ P w K mg base 1 "_law_leq" (topS 21) ["space", "a", "b"] F__law_leq := by
  have sc := sc__law_leq
  refine fz_of (run := run__law_leq) 0 gm hF sc hb (fun cdv A outer s H E hr => ?_) (fun ds S0 _ => impl_of ds S0)
  have tk := takes_of (X := cxOf (L2.CX P w) P w K mg base N__law_leq "_law_leq" (defScope (topS 21)) f cdv A outer s H E) rfl rfl rfl rfl
  exact ⟨_, (zss_one (zs_ret (ze_or (ze_cmp (kzo_eq (K := K) rfl hr) (zv 1) (zv 2)) (ze_one (ze_cmp (kzo_eq (K := K) rfl hr) (kze_ix (K := K) rfl (kze_ix (K := K) rfl (ze_dget hr (zv 0) ze_str) (zv 1)) (zv 2)) ze_int)))))⟩
theorem sc__law_take : FnScope N__law_take ["pool", "many"] (defScope (topS 16)) := ⟨rfl, rfl, rfl, by decide +kernel, rfl, by decide +kernel, by decide +kernel⟩
theorem fz__law_take {f : Addr} {fd : FuncData} (B : Bi mg) (G : Gc mg) (h__law_mixed : FZ P w K mg base 1 "_law_mixed" (topS 14) ["number", "turn", "many"] F__law_mixed) (gm : mg "_law_take" = some (.ref f)) (hF : Fun K "_law_take" "_law_take" (topS 16) f fd) (hb : Binds K fd ["pool", "many"] []) : FZ P w K mg base 2 "_law_take" (topS 16) ["pool", "many"] F__law_take := by
  have sc := sc__law_take
  refine fz_of (run := run__law_take) 0 gm hF sc hb (fun cdv A outer s H E hr => ?_) (fun ds S0 _ => impl_of ds S0)
  have tk := takes_of (X := cxOf (L2.CX P w) P w K mg base N__law_take "_law_take" (defScope (topS 16)) f cdv A outer s H E) rfl rfl rfl rfl
  exact ⟨_, (zss_cons (zs_dput hr (zv 0) ze_str (ze_op (kzo_add (K := K) rfl) (ze_dget hr (zv 0) ze_str) ze_int))
    (zss_cons (zs_if (ZW.zt (zw_and (zt_cmp (kzo_eq (K := K) rfl hr) (ze_dget hr (zv 0) ze_str) ze_int) (zw_and1 (zt_cmp zo_lt (ze_dget hr (zv 0) ze_str) (ze_callB (kcall_len (K := K) rfl) cs_len (by rfl) B.len PySem.boot_len (za_cons (ze_dget hr (zv 0) ze_str) za_nil)))))) (zss_cons (zs_set (i := 3) sc.nd (ze_callT call_int1 cs_int (by rfl) B.int boot_int (za_cons (kze_ix (K := K) rfl (ze_dget hr (zv 0) ze_str) (ze_dget hr (zv 0) ze_str)) za_nil)))
    (zss_cons (zs_dput hr (zv 0) ze_str (ze_op (kzo_add (K := K) rfl) (ze_dget hr (zv 0) ze_str) ze_int))
    (zss_cons (zs_dput hr (zv 0) ze_str (ze_cmp (kzo_eq (K := K) rfl hr) (ze_op zo_mod (zv 3) ze_int) ze_int))
    (zss_cons (zs_dput hr (zv 0) ze_str (ze_op zo_div (ze_callB call_abs cs_abs (by rfl) B.abs (by decide +kernel) (za_cons (zv 3) za_nil)) ze_int))
    (zss_one (zs_dput hr (zv 0) ze_str (kze_ix (K := K) rfl (ze_lst (za_cons ze_int (za_cons ze_int za_nil))) (ze_callT call_int1 cs_int (by rfl) B.int boot_int (za_cons (ze_dget hr (zv 0) ze_str) za_nil))))))))) zss_nil)
    (zss_cons (zs_if (zt_cmp (kzo_eq (K := K) rfl hr) (ze_dget hr (zv 0) ze_str) ze_int) (zss_one (zs_ret (kze_call (K := K) (mg := mg) rfl rfl rfl h__law_mixed (hr.mono (by decide)) (by rfl) tk (za_cons (ze_dget hr (zv 0) ze_str) (za_cons (ze_dget hr (zv 0) ze_str) (za_cons (zv 1) za_nil)))))) zss_nil)
    (zss_cons (zs_dput hr (zv 0) ze_str (ze_op zo_sub (ze_dget hr (zv 0) ze_str) ze_int))
    (zss_cons (zs_if (kzt_tru (K := K) rfl (ze_dget hr (zv 0) ze_str)) (zss_one (zs_ret (kze_call (K := K) (mg := mg) rfl rfl rfl h__law_mixed (hr.mono (by decide)) (by rfl) tk (za_cons (ze_dget hr (zv 0) ze_str) (za_cons (ze_dget hr (zv 0) ze_str) (za_cons (zv 1) za_nil)))))) zss_nil)
    (zss_cons (zs_set (i := 2) sc.nd (ze_op zo_mod (ze_callT call_int1 cs_int (by rfl) B.int boot_int (za_cons (ze_dget hr (zv 0) ze_str) za_nil)) (zv 1)))
    (zss_cons (zs_dput hr (zv 0) ze_str (ze_op zo_div (ze_dget hr (zv 0) ze_str) (zv 1)))
    (zss_cons (zs_if (zt_cmp (kzo_eq (K := K) rfl hr) (ze_dget hr (zv 0) ze_str) ze_int) (zss_one (zs_dput hr (zv 0) ze_str ze_int)) zss_nil)
    (zss_one (zs_ret (zv 2)))))))))))⟩
theorem sc__law_bounds : FnScope N__law_bounds ["space", "values", "q"] (defScope (topS 23)) := ⟨rfl, rfl, rfl, by decide +kernel, rfl, by decide +kernel, by decide +kernel⟩
theorem fz__law_bounds {f : Addr} {fd : FuncData} (B : Bi mg) (G : Gc mg) (h__law_leq : FZ P w K mg base 1 "_law_leq" (topS 21) ["space", "a", "b"] F__law_leq) (gm : mg "_law_bounds" = some (.ref f)) (hF : Fun K "_law_bounds" "_law_bounds" (topS 23) f fd) (hb : Binds K fd ["space", "values", "q"] []) : FZ P w K mg base 2 "_law_bounds" (topS 23) ["space", "values", "q"] F__law_bounds := by
  have sc := sc__law_bounds
  refine fz_of (run := run__law_bounds) 0 gm hF sc hb (fun cdv A outer s H E hr => ?_) (fun ds S0 _ => impl_of ds S0)
  have tk := takes_of (X := cxOf (L2.CX P w) P w K mg base N__law_bounds "_law_bounds" (defScope (topS 23)) f cdv A outer s H E) rfl rfl rfl rfl
  exact ⟨_, (zss_one (zs_ret (ze_cmp (kzo_eq (K := K) rfl hr) (ze_callB (kcall_len (K := K) rfl) cs_len (by rfl) B.len PySem.boot_len (za_cons (ze_lc (own := [("one", 3)]) (k := .frz) rfl rfl sc.nd (kzi_src (K := K) rfl (zv 1)) (by first | exact blkOk_by (N := N__law_bounds) (sc := defScope (topS 23)) (by decide +kernel) | exact blkOk_by (by with_unfolding_all rfl)) (fun _ _ _ _ _ => (zg_name (i := 3) sc.nd)) (fun _ _ _ _ _ => (zts_one (zt_not (kzt_tru (K := K) rfl (kze_call (K := K) (mg := mg) rfl rfl rfl h__law_leq (hr.mono (by decide)) (by rfl) takes0 (za_cons (zv 0) (za_cons (zv 3) (za_cons (zv 2) za_nil)))))))) (fun _ _ _ _ _ => (zv 3))) za_nil)) ze_int)))⟩
theorem sc__law_due : FnScope N__law_due ["first", "second", "row"] (defScope (topS 26)) := ⟨rfl, rfl, rfl, by decide +kernel, rfl, by decide +kernel, by decide +kernel⟩
theorem fz__law_due {f : Addr} {fd : FuncData} (B : Bi mg) (G : Gc mg) (h__law_leq : FZ P w K mg base 1 "_law_leq" (topS 21) ["space", "a", "b"] F__law_leq) (gm : mg "_law_due" = some (.ref f)) (hF : Fun K "_law_due" "_law_due" (topS 26) f fd) (hb : Binds K fd ["first", "second", "row"] []) : FZ P w K mg base 2 "_law_due" (topS 26) ["first", "second", "row"] F__law_due := by
  have sc := sc__law_due
  refine fz_of (run := run__law_due) 0 gm hF sc hb (fun cdv A outer s H E hr => ?_) (fun ds S0 _ => impl_of ds S0)
  have tk := takes_of (X := cxOf (L2.CX P w) P w K mg base N__law_due "_law_due" (defScope (topS 26)) f cdv A outer s H E) rfl rfl rfl rfl
  exact ⟨_, (zss_cons (zs_for (passes_of rfl) rfl (kzi_src (K := K) rfl (kze_ix (K := K) rfl (ze_dget hr (zv 0) ze_str) ze_int)) (zg_tupK (K := K) rfl rfl (zgs_cons (zg_name (i := 3) sc.nd) (zgs_cons (zg_name (i := 4) sc.nd) zgs_nil))) (zss_one (zs_if (zt_not (kzt_tru (K := K) rfl (kze_call (K := K) (mg := mg) rfl rfl rfl h__law_leq (hr.mono (by decide)) (by rfl) tk (za_cons (zv 1) (za_cons (kze_ix (K := K) rfl (zv 2) (zv 3)) (za_cons (kze_ix (K := K) rfl (zv 2) (zv 4)) za_nil)))))) (zss_one (zs_ret (ze_tup (za_cons ze_str (za_cons (ze_tup (za_cons (zv 3) (za_cons (zv 4) za_nil))) za_nil))))) zss_nil)))
    (zss_one (zs_ret (ze_tup (za_cons ze_str (za_cons ze_non za_nil))))))⟩
theorem sc__law_names : FnScope N__law_names ["pool", "n"] (defScope (topS 17)) := ⟨rfl, rfl, rfl, by decide +kernel, rfl, by decide +kernel, by decide +kernel⟩
theorem fz__law_names {f : Addr} {fd : FuncData} (B : Bi mg) (G : Gc mg) (h__law_take : FZ P w K mg base 2 "_law_take" (topS 16) ["pool", "many"] F__law_take) (gm : mg "_law_names" = some (.ref f)) (hF : Fun K "_law_names" "_law_names" (topS 17) f fd) (hb : Binds K fd ["pool", "n"] []) : FZ P w K mg base 3 "_law_names" (topS 17) ["pool", "n"] F__law_names := by
  have sc := sc__law_names
  refine fz_of (run := run__law_names) 0 gm hF sc hb (fun cdv A outer s H E hr => ?_) (fun ds S0 _ => impl_of ds S0)
  have tk := takes_of (X := cxOf (L2.CX P w) P w K mg base N__law_names "_law_names" (defScope (topS 17)) f cdv A outer s H E) rfl rfl rfl rfl
  exact ⟨_, (zss_cons (zs_if (zt_cmp (kzo_eq (K := K) rfl hr) (kze_call (K := K) (mg := mg) rfl rfl rfl h__law_take (hr.mono (by decide)) (by rfl) tk (za_cons (zv 0) (za_cons ze_int za_nil))) ze_int) (zss_one (zs_ret (ze_listRg (k := .lst) (by exact fun z => nomatch z) rfl (by rfl) B.list (by rfl) B.range (zv 1)))) zss_nil)
    (zss_cons (zs_set (i := 2) sc.nd (ze_listRg (k := .cel) (by exact fun z => nomatch z) rfl (by rfl) B.list (by rfl) B.range (zv 1)))
    (zss_one (zs_ret (ze_lc (own := [("k", 3)]) (k := .frz) rfl rfl sc.nd (zi_range1 (by rfl) B.range (za_cons (zv 1) za_nil)) (by first | exact blkOk_by (N := N__law_names) (sc := defScope (topS 17)) (by decide +kernel) | exact blkOk_by (by with_unfolding_all rfl)) (fun _ _ _ _ _ => (zg_name (i := 3) sc.nd)) (fun _ _ _ _ _ => zts_nil) (fun _ _ _ _ _ => (kze_methL (K := K) rfl PySem.F.slot_list_pop PySem.F.type_list_pop mt_popAt ms_popAt (zv 2) (za_cons (kze_call (K := K) (mg := mg) rfl rfl rfl h__law_take (hr.mono (by decide)) (by rfl) takes0 (za_cons (zv 0) (za_cons (ze_callB (kcall_len (K := K) rfl) cs_len (by rfl) B.len PySem.boot_len (za_cons (zv 2) za_nil)) za_nil))) za_nil))))))))⟩
theorem sc__law_map : FnScope N__law_map ["pool", "first", "second"] (defScope (topS 22)) := ⟨rfl, rfl, rfl, by decide +kernel, rfl, by decide +kernel, by decide +kernel⟩
theorem fz__law_map {f : Addr} {fd : FuncData} (B : Bi mg) (G : Gc mg) (h__law_bounds : FZ P w K mg base 2 "_law_bounds" (topS 23) ["space", "values", "q"] F__law_bounds) (h__law_take : FZ P w K mg base 2 "_law_take" (topS 16) ["pool", "many"] F__law_take) (gm : mg "_law_map" = some (.ref f)) (hF : Fun K "_law_map" "_law_map" (topS 22) f fd) (hb : Binds K fd ["pool", "first", "second"] []) : FZ P w K mg base 3 "_law_map" (topS 22) ["pool", "first", "second"] F__law_map := by
  have sc := sc__law_map
  refine fz_of (run := run__law_map) 0 gm hF sc hb (fun cdv A outer s H E hr => ?_) (fun ds S0 _ => impl_of ds S0)
  have tk := takes_of (X := cxOf (L2.CX P w) P w K mg base N__law_map "_law_map" (defScope (topS 22)) f cdv A outer s H E) rfl rfl rfl rfl
  exact ⟨_, (zss_cons (zs_set (i := 3) sc.nd (ze_dget hr (zv 1) ze_str))
    (zss_cons (zs_set (i := 4) sc.nd (ze_lc (own := [("x", 8)]) (k := .cel) rfl rfl sc.nd (kzi_src (K := K) rfl (zv 3)) (by first | exact blkOk_by (N := N__law_map) (sc := defScope (topS 22)) (by decide +kernel) | exact blkOk_by (by with_unfolding_all rfl)) (fun _ _ _ _ _ => (zg_name (i := 8) sc.nd)) (fun _ _ _ _ _ => zts_nil) (fun _ _ _ _ _ => ze_int)))
    (zss_cons (zs_for (passes_of rfl) rfl (zi_range1 (by rfl) B.range (za_cons (ze_callB (kcall_len (K := K) rfl) cs_len (by rfl) B.len PySem.boot_len (za_cons (zv 3) za_nil)) za_nil)) (zg_name (i := 5) sc.nd) (zss_cons (zs_set (i := 6) sc.nd (ze_lc (own := [("y", 10)]) (k := .frz) rfl rfl sc.nd (kzi_src (K := K) rfl (kze_sl (K := K) rfl (zv 3) zp_none (zp_some (zv 5)))) (by first | exact blkOk_by (N := N__law_map) (sc := defScope (topS 22)) (by decide +kernel) | exact blkOk_by (by with_unfolding_all rfl)) (fun _ _ _ _ _ => (zg_name (i := 10) sc.nd)) (fun _ _ _ _ _ => (zts_one (zt_cmp (kzo_eq (K := K) rfl hr) (kze_ix (K := K) rfl (kze_ix (K := K) rfl (ze_dget hr (zv 1) ze_str) (zv 10)) (kze_ix (K := K) rfl (zv 3) (zv 5))) ze_int))) (fun _ _ _ _ _ => (kze_ix (K := K) rfl (zv 4) (zv 10)))))
    (zss_cons (zs_setLc (own := [("q", 11)]) (k := .frz) (i := 7) rfl rfl sc.nd rfl rfl (sw_true rfl rfl rfl (by decide +kernel)) (zi_range1 (by rfl) B.range (za_cons (kze_ix (K := K) rfl (ze_dget hr (zv 2) ze_str) ze_int) za_nil)) (by first | exact blkOk_by (N := N__law_map) (sc := defScope (topS 22)) (by decide +kernel) | exact blkOk_by (by with_unfolding_all rfl)) (fun _ _ _ _ _ => (zg_name (i := 11) sc.nd)) (fun _ _ _ _ _ => (zts_one (kzt_tru (K := K) rfl (kze_call (K := K) (mg := mg) rfl rfl rfl h__law_bounds (hr.mono (by decide)) (by rfl) takes0 (za_cons (zv 2) (za_cons (zv 6) (za_cons (zv 11) za_nil))))))) (fun _ _ _ _ _ => (zv 11)))
    (zss_cons (zs_if (zt_cmp (kzo_eq (K := K) rfl hr) (ze_callB (kcall_len (K := K) rfl) cs_len (by rfl) B.len PySem.boot_len (za_cons (zv 7) za_nil)) ze_int) (zss_cons (zs_set (i := 9) sc.nd (kze_call (K := K) (mg := mg) rfl rfl rfl h__law_take (hr.mono (by decide)) (by rfl) tk (za_cons (zv 0) (za_cons (kze_ix (K := K) rfl (ze_dget hr (zv 2) ze_str) ze_int) za_nil))))
    (zss_one (zs_ret (ze_callT (kcall_tuple (K := K) rfl) kcs_tuple (by rfl) B.tuple (by decide +kernel) (za_cons (ze_lc (own := [("x", 8)]) (k := .frz) rfl rfl sc.nd (kzi_src (K := K) rfl (zv 3)) (by first | exact blkOk_by (N := N__law_map) (sc := defScope (topS 22)) (by decide +kernel) | exact blkOk_by (by with_unfolding_all rfl)) (fun _ _ _ _ _ => (zg_name (i := 8) sc.nd)) (fun _ _ _ _ _ => zts_nil) (fun _ _ _ _ _ => (zv 9))) za_nil))))) zss_nil)
    (zss_one (zs_put (zv 4) (kze_ix (K := K) rfl (zv 3) (zv 5)) (kze_ix (K := K) rfl (zv 7) (kze_call (K := K) (mg := mg) rfl rfl rfl h__law_take (hr.mono (by decide)) (by rfl) tk (za_cons (zv 0) (za_cons (ze_callB (kcall_len (K := K) rfl) cs_len (by rfl) B.len PySem.boot_len (za_cons (zv 7) za_nil)) za_nil))))))))))
    (zss_one (zs_ret (ze_callT (kcall_tuple (K := K) rfl) kcs_tuple (by rfl) B.tuple (by decide +kernel) (za_cons (zv 4) za_nil)))))))⟩
theorem sc__law_changed : FnScope N__law_changed ["pool", "row", "many", "m"] (defScope (topS 27)) := ⟨rfl, rfl, rfl, by decide +kernel, rfl, by decide +kernel, by decide +kernel⟩
theorem fz__law_changed {f : Addr} {fd : FuncData} (B : Bi mg) (G : Gc mg) (h__law_take : FZ P w K mg base 2 "_law_take" (topS 16) ["pool", "many"] F__law_take) (gm : mg "_law_changed" = some (.ref f)) (hF : Fun K "_law_changed" "_law_changed" (topS 27) f fd) (hb : Binds K fd ["pool", "row", "many", "m"] []) : FZ P w K mg base 3 "_law_changed" (topS 27) ["pool", "row", "many", "m"] F__law_changed := by
  have sc := sc__law_changed
  refine fz_of (run := run__law_changed) 0 gm hF sc hb (fun cdv A outer s H E hr => ?_) (fun ds S0 _ => impl_of ds S0)
  have tk := takes_of (X := cxOf (L2.CX P w) P w K mg base N__law_changed "_law_changed" (defScope (topS 27)) f cdv A outer s H E) rfl rfl rfl rfl
  exact ⟨_, (zss_cons (zs_set (i := 4) sc.nd (ze_callT (kcall_list (K := K) rfl) cs_listC (by rfl) B.list (by decide +kernel) (za_cons (zv 1) za_nil)))
    (zss_cons (zs_for (passes_of rfl) rfl (zi_range1 (by rfl) B.range (za_cons (ze_op zo_mul (zv 2) (ze_callT call_int1 cs_int (by rfl) B.int boot_int (za_cons (ze_cmp zo_gt (ze_callB (kcall_len (K := K) rfl) cs_len (by rfl) B.len PySem.boot_len (za_cons (zv 1) za_nil)) ze_int) za_nil))) za_nil)) (zg_name (i := 5) sc.nd) (zss_one (zs_put (zv 4) (kze_call (K := K) (mg := mg) rfl rfl rfl h__law_take (hr.mono (by decide)) (by rfl) tk (za_cons (zv 0) (za_cons (ze_callB (kcall_len (K := K) rfl) cs_len (by rfl) B.len PySem.boot_len (za_cons (zv 1) za_nil)) za_nil))) (kze_call (K := K) (mg := mg) rfl rfl rfl h__law_take (hr.mono (by decide)) (by rfl) tk (za_cons (zv 0) (za_cons (zv 3) za_nil))))))
    (zss_one (zs_ret (ze_callT (kcall_tuple (K := K) rfl) kcs_tuple (by rfl) B.tuple (by decide +kernel) (za_cons (zv 4) za_nil))))))⟩
theorem sc__law_forms : FnScope N__law_forms ["pool", "row", "m"] (defScope (topS 28)) := ⟨rfl, rfl, rfl, by decide +kernel, rfl, by decide +kernel, by decide +kernel⟩
theorem fz__law_forms {f : Addr} {fd : FuncData} (B : Bi mg) (G : Gc mg) (h__law_take : FZ P w K mg base 2 "_law_take" (topS 16) ["pool", "many"] F__law_take) (gm : mg "_law_forms" = some (.ref f)) (hF : Fun K "_law_forms" "_law_forms" (topS 28) f fd) (hb : Binds K fd ["pool", "row", "m"] []) : FZ P w K mg base 3 "_law_forms" (topS 28) ["pool", "row", "m"] F__law_forms := by
  have sc := sc__law_forms
  refine fz_of (run := run__law_forms) 1 gm hF sc hb (fun cdv A outer s H E hr => ?_) (fun ds S0 _ => impl_of ds S0)
  have tk := takes_of (X := cxOf (L2.CX P w) P w K mg base N__law_forms "_law_forms" (defScope (topS 28)) f cdv A outer s H E) rfl rfl rfl rfl
  exact ⟨_, (zss_cons (zs_set (i := 3) sc.nd (ze_lstC (za_cons ze_non (za_cons ze_str (za_cons ze_str (za_cons ze_int (za_cons (ze_callB (kcall_len (K := K) rfl) cs_len (by rfl) B.len PySem.boot_len (za_cons (zv 1) za_nil)) (za_cons (ze_op (kzo_add (K := K) rfl) (zv 1) (ze_tup (za_cons ze_int za_nil))) (za_cons (ze_tup (za_cons (zv 1) za_nil)) (za_cons (ze_tup (za_cons (zv 1) (za_cons (zv 1) za_nil))) (za_cons (ze_op (kzo_add (K := K) rfl) (ze_op (kzo_add (K := K) rfl) (zv 1) (zv 1)) (ze_tup (za_cons ze_int za_nil))) za_nil)))))))))))
    (zss_cons (zs_if (zt_cmp (kzo_eq (K := K) rfl hr) (ze_callB (kcall_len (K := K) rfl) cs_len (by rfl) B.len PySem.boot_len (za_cons (zv 1) za_nil)) ze_int) (zss_one (zs_ret (zv 3))) zss_nil)
    (zss_cons (zs_set (i := 4) sc.nd (kze_call (K := K) (mg := mg) rfl rfl rfl h__law_take (hr.mono (by decide)) (by rfl) tk (za_cons (zv 0) (za_cons (ze_callB (kcall_len (K := K) rfl) cs_len (by rfl) B.len PySem.boot_len (za_cons (zv 1) za_nil)) za_nil))))
    (zss_cons (zs_set (i := 5) sc.nd (ze_lst (za_cons (zv 2) (za_cons (ze_op (kzo_add (K := K) rfl) (ze_op (kzo_add (K := K) rfl) (zv 2) ze_int) (kze_call (K := K) (mg := mg) rfl rfl rfl h__law_take (hr.mono (by decide)) (by rfl) tk (za_cons (zv 0) (za_cons ze_int za_nil)))) (za_cons (ze_neg ze_int) (za_cons (ze_op zo_sub (ze_neg ze_int) (kze_call (K := K) (mg := mg) rfl rfl rfl h__law_take (hr.mono (by decide)) (by rfl) tk (za_cons (zv 0) (za_cons ze_int za_nil)))) (za_cons (ze_op zo_pow ze_int ze_int) (za_cons (ze_op zo_sub ze_int (ze_op zo_pow ze_int ze_int)) za_nil))))))))
    (zss_cons (zs_for (passes_of rfl) rfl (kzi_src (K := K) rfl (ze_op (kzo_add (K := K) rfl) (zv 5) (ze_lst (za_cons ze_non (za_cons ze_str (za_cons ze_str (za_cons (ze_tup za_nil) (za_cons (ze_tup (za_cons ze_int za_nil)) (za_cons (kze_sl (K := K) rfl (zv 1) (zp_some (zv 4)) (zp_some (ze_op (kzo_add (K := K) rfl) (zv 4) ze_int))) za_nil))))))))) (zg_name (i := 6) sc.nd) (zss_one (zs_expr (kze_methL (K := K) rfl PySem.F.slot_list_append PySem.F.type_list_append mt_append ms_append (zv 3) (za_cons (ze_op (kzo_add (K := K) rfl) (ze_op (kzo_add (K := K) rfl) (kze_sl (K := K) rfl (zv 1) zp_none (zp_some (zv 4))) (ze_tup (za_cons (zv 6) za_nil))) (kze_sl (K := K) rfl (zv 1) (zp_some (ze_op (kzo_add (K := K) rfl) (zv 4) ze_int)) zp_none)) za_nil)))))
    (zss_one (zs_ret (ze_op (kzo_add (K := K) rfl) (zv 3) (ze_lst (za_cons (ze_tup za_nil) (za_cons (kze_sl (K := K) rfl (zv 1) (zp_some ze_int) zp_none) (za_cons (kze_sl (K := K) rfl (zv 1) zp_none (zp_some (ze_neg ze_int))) za_nil))))))))))))⟩
theorem sc__law_floors : FnScope N__law_floors ["pool", "n", "wide"] (defScope (topS 18)) := ⟨rfl, rfl, rfl, by decide +kernel, rfl, by decide +kernel, by decide +kernel⟩
theorem fz__law_floors {f : Addr} {fd : FuncData} (B : Bi mg) (G : Gc mg) (h__law_space : FZ P w K mg base 1 "_law_space" (topS 20) ["names", "up"] F__law_space) (h__law_names : FZ P w K mg base 3 "_law_names" (topS 17) ["pool", "n"] F__law_names) (gm : mg "_law_floors" = some (.ref f)) (hF : Fun K "_law_floors" "_law_floors" (topS 18) f fd) (hb : Binds K fd ["pool", "n", "wide"] []) : FZ P w K mg base 4 "_law_floors" (topS 18) ["pool", "n", "wide"] F__law_floors := by
  have sc := sc__law_floors
  refine fz_of (run := run__law_floors) 0 gm hF sc hb (fun cdv A outer s H E hr => ?_) (fun ds S0 _ => impl_of ds S0)
  have tk := takes_of (X := cxOf (L2.CX P w) P w K mg base N__law_floors "_law_floors" (defScope (topS 18)) f cdv A outer s H E) rfl rfl rfl rfl
  exact ⟨_, (zss_cons (zs_setLc (own := [("i", 4)]) (k := .frz) (i := 3) rfl rfl sc.nd rfl rfl (sw_true rfl rfl rfl (by decide +kernel)) (zi_range1 (by rfl) B.range (za_cons (zv 1) za_nil)) (by first | exact blkOk_by (N := N__law_floors) (sc := defScope (topS 18)) (by decide +kernel) | exact blkOk_by (by with_unfolding_all rfl)) (fun _ _ _ _ _ => (zg_name (i := 4) sc.nd)) (fun _ _ _ _ _ => zts_nil) (fun _ _ _ _ _ => (ze_lc (own := [("j", 5)]) (k := .frz) rfl rfl sc.nd (zi_range1 (by rfl) B.range (za_cons (zv 1) za_nil)) (by first | exact blkOk_by (N := N__law_floors) (sc := defScope (topS 18)) (by decide +kernel) | exact blkOk_by (by with_unfolding_all rfl)) (fun _ _ _ _ _ => (zg_name (i := 5) sc.nd)) (fun _ _ _ _ _ => zts_nil) (fun _ _ _ _ _ => (ze_callT call_int1 cs_int (by rfl) B.int boot_int (za_cons (ze_cmp zo_lt (ze_op zo_div (zv 4) (zv 2)) (ze_op zo_div (zv 5) (zv 2))) za_nil))))))
    (zss_one (zs_ret (kze_call (K := K) (mg := mg) rfl rfl rfl h__law_space (hr.mono (by decide)) (by rfl) tk (za_cons (kze_call (K := K) (mg := mg) rfl rfl rfl h__law_names (hr.mono (by decide)) (by rfl) tk (za_cons (zv 0) (za_cons (zv 1) za_nil))) (za_cons (zv 3) za_nil))))))⟩
theorem sc__law_drawn : FnScope N__law_drawn ["pool", "n"] (defScope (topS 19)) := ⟨rfl, rfl, rfl, by decide +kernel, rfl, by decide +kernel, by decide +kernel⟩
theorem fz__law_drawn {f : Addr} {fd : FuncData} (B : Bi mg) (G : Gc mg) (h__law_take : FZ P w K mg base 2 "_law_take" (topS 16) ["pool", "many"] F__law_take) (h__law_floors : FZ P w K mg base 4 "_law_floors" (topS 18) ["pool", "n", "wide"] F__law_floors) (h__law_space : FZ P w K mg base 1 "_law_space" (topS 20) ["names", "up"] F__law_space) (h__law_names : FZ P w K mg base 3 "_law_names" (topS 17) ["pool", "n"] F__law_names) (gm : mg "_law_drawn" = some (.ref f)) (hF : Fun K "_law_drawn" "_law_drawn" (topS 19) f fd) (hb : Binds K fd ["pool", "n"] []) : FZ P w K mg base 5 "_law_drawn" (topS 19) ["pool", "n"] F__law_drawn := by
  have sc := sc__law_drawn
  refine fz_of (run := run__law_drawn) 0 gm hF sc hb (fun cdv A outer s H E hr => ?_) (fun ds S0 _ => impl_of ds S0)
  have tk := takes_of (X := cxOf (L2.CX P w) P w K mg base N__law_drawn "_law_drawn" (defScope (topS 19)) f cdv A outer s H E) rfl rfl rfl rfl
  exact ⟨_, (zss_cons (zs_set (i := 2) sc.nd (kze_call (K := K) (mg := mg) rfl rfl rfl h__law_take (hr.mono (by decide)) (by rfl) tk (za_cons (zv 0) (za_cons ze_int za_nil))))
    (zss_cons (zs_if (zt_cmp zo_lt (zv 2) ze_int) (zss_one (zs_ret (kze_call (K := K) (mg := mg) rfl rfl rfl h__law_floors (hr.mono (by decide)) (by rfl) tk (za_cons (zv 0) (za_cons (zv 1) (za_cons (ze_op (kzo_add (K := K) rfl) ze_int (kze_call (K := K) (mg := mg) rfl rfl rfl h__law_take (hr.mono (by decide)) (by rfl) tk (za_cons (zv 0) (za_cons (ze_op (kzo_add (K := K) rfl) (zv 1) ze_int) za_nil)))) za_nil)))))) zss_nil)
    (zss_cons (zs_set (i := 3) sc.nd (ze_lc (own := [("k", 5)]) (k := .cel) rfl rfl sc.nd (zi_range1 (by rfl) B.range (za_cons (zv 1) za_nil)) (by first | exact blkOk_by (N := N__law_drawn) (sc := defScope (topS 19)) (by decide +kernel) | exact blkOk_by (by with_unfolding_all rfl)) (fun _ _ _ _ _ => (zg_name (i := 5) sc.nd)) (fun _ _ _ _ _ => zts_nil) (fun _ _ _ _ _ => (ze_op zo_mulC (ze_lst (za_cons ze_int za_nil)) (zv 1)))))
    (zss_cons (zs_for (passes_of rfl) rfl (zi_range1 (by rfl) B.range (za_cons (zv 1) za_nil)) (zg_name (i := 4) sc.nd) (zss_cons (zs_set (i := 6) sc.nd (kze_ix (K := K) rfl (zv 3) (zv 4)))
    (zss_one (zs_for (passes_of rfl) rfl (zi_range2 (by rfl) B.range (za_cons (ze_op (kzo_add (K := K) rfl) (zv 4) ze_int) (za_cons (zv 1) za_nil))) (zg_name (i := 7) sc.nd) (zss_one (zs_put (zv 6) (zv 7) (ze_callT call_int1 cs_int (by rfl) B.int boot_int (za_cons (ze_cmp (kzo_eq (K := K) rfl hr) (kze_call (K := K) (mg := mg) rfl rfl rfl h__law_take (hr.mono (by decide)) (by rfl) tk (za_cons (zv 0) (za_cons (kze_ix (K := K) rfl (ze_lst (za_cons ze_int (za_cons ze_int (za_cons ze_int (za_cons ze_int za_nil))))) (ze_op zo_sub (zv 2) ze_int)) za_nil))) ze_int) za_nil))))))))
    (zss_cons (zs_for (passes_of rfl) rfl (zi_range1 (by rfl) B.range (za_cons (zv 1) za_nil)) (zg_name (i := 5) sc.nd) (zss_one (zs_for (passes_of rfl) rfl (zi_range1 (by rfl) B.range (za_cons (zv 5) za_nil)) (zg_name (i := 4) sc.nd) (zss_one (zs_if (zt_cmp (kzo_eq (K := K) rfl hr) (kze_ix (K := K) rfl (kze_ix (K := K) rfl (zv 3) (zv 4)) (zv 5)) ze_int) (zss_one (zs_put (zv 3) (zv 4) (ze_lc (own := [("j", 7)]) (k := .frz) rfl rfl sc.nd (zi_range1 (by rfl) B.range (za_cons (zv 1) za_nil)) (by first | exact blkOk_by (N := N__law_drawn) (sc := defScope (topS 19)) (by decide +kernel) | exact blkOk_by (by with_unfolding_all rfl)) (fun _ _ _ _ _ => (zg_name (i := 7) sc.nd)) (fun _ _ _ _ _ => zts_nil) (fun _ _ _ _ _ => (ze_callT call_int1 cs_int (by rfl) B.int boot_int (za_cons (ze_cmp zo_gt (ze_op (kzo_add (K := K) rfl) (kze_ix (K := K) rfl (kze_ix (K := K) rfl (zv 3) (zv 4)) (zv 7)) (kze_ix (K := K) rfl (kze_ix (K := K) rfl (zv 3) (zv 5)) (zv 7))) ze_int) za_nil)))))) zss_nil)))))
    (zss_one (zs_ret (kze_call (K := K) (mg := mg) rfl rfl rfl h__law_space (hr.mono (by decide)) (by rfl) tk (za_cons (kze_call (K := K) (mg := mg) rfl rfl rfl h__law_names (hr.mono (by decide)) (by rfl) tk (za_cons (zv 0) (za_cons (zv 1) za_nil))) (za_cons (zv 3) za_nil))))))))))⟩
theorem sc_has_row_form : FnScope N_has_row_form ["first", "second", "row"] (defScope (topS 11)) := ⟨rfl, rfl, rfl, by decide +kernel, rfl, by decide +kernel, by decide +kernel⟩
theorem fz_has_row_form {f : Addr} {fd : FuncData} (B : Bi mg) (G : Gc mg) {c Pt : Addr} (TB : GxR.TabB base mg c Pt) (hP : Pt ∈ Tabs.ad) (hcode : fd.code = .ref c)  (gm : mg "has_row_form" = some (.ref f)) (hF : Fun K "has_row_form" "has_row_form" (topS 11) f fd) (hb : Binds K fd ["first", "second", "row"] []) : FZ P w K mg base 8 "has_row_form" (topS 11) ["first", "second", "row"] F_has_row_form := by
  have sc := sc_has_row_form
  refine fz_ofT (run := run_has_row_form) 0 gm hF hcode sc hb (fun A outer s H E hr => ?_) (fun ds S0 _ => impl_of ds S0)
  have tk := takes_of (X := cxOf (L2.CX P w) P w K mg base N_has_row_form "has_row_form" (defScope (topS 11)) f (.ref c) A outer s H E) rfl rfl rfl rfl
  exact ⟨_, (zss_cons (zs_if (ZW.zt (zw_or (zt_not (kzt_tru (K := K) rfl (kze_isi (K := K) (T := "tuple") rfl (by rfl) B.isinstance B.tuple (by decide +kernel) (zv 2)))) (zw_or1 (zt_cmp (kzo_ne (K := K) rfl hr) (ze_callB (kcall_len (K := K) rfl) cs_len (by rfl) B.len PySem.boot_len (za_cons (zv 2) za_nil)) (kze_ix (K := K) rfl (zv 0) ze_int))))) (zss_one (zs_ret ze_bl)) zss_nil)
    (zss_one (zs_ret (ze_allG (c := c) (P := Pt) (own := [("value", 3)]) (k := 0) rfl TB hP rfl rfl sc.nd hr (by decide) (by rfl) B.all (kzi_src (K := K) rfl (zv 2)) (by first | exact blkOk_by (N := N_has_row_form) (sc := defScope (topS 11)) (by decide +kernel) | exact blkOk_by (by with_unfolding_all rfl)) (fun _ _ _ _ _ _ _ hr => (zg_name (i := 3) sc.nd)) (fun _ _ _ _ _ _ _ hr => zts_nil) (fun _ _ _ _ _ _ _ hr => (ze_and (kze_isi (K := K) (T := "int") rfl (by rfl) B.isinstance B.int (by decide +kernel) (zv 3)) (ze_one (ze_chain zo_le zo_lt ze_int (zv 3) (kze_ix (K := K) rfl (zv 1) ze_int)))))))))⟩
theorem sc_check_map : FnScope N_check_map ["first", "second", "row"] (defScope (topS 10)) := ⟨rfl, rfl, rfl, by decide +kernel, rfl, by decide +kernel, by decide +kernel⟩
theorem fz_check_map {f : Addr} {fd : FuncData} (B : Bi mg) (G : Gc mg) {cs : Cs} (XC : Xc P w K mg base cs) (h_has_row_form : FZ P w K mg base 8 "has_row_form" (topS 11) ["first", "second", "row"] F_has_row_form) (h_falling_pair : FZ P w K mg base 1 "falling_pair" (topS 12) ["first", "higher", "row"] F_falling_pair) (h_with_selves : FZ P w K mg base 1 "with_selves" (topS 8) ["masks"] F_with_selves) (h_masks_above : FZ P w K mg base 1 "masks_above" (topS 7) ["order"] F_masks_above) (gm : mg "check_map" = some (.ref f)) (hF : Fun K "check_map" "check_map" (topS 10) f fd) (hb : Binds K fd ["first", "second", "row"] []) : FZ P w K mg base 9 "check_map" (topS 10) ["first", "second", "row"] F_check_map := by
  have sc := sc_check_map
  refine fz_of (run := run_check_map) 0 gm hF sc hb (fun cdv A outer s H E hr => ?_) (fun ds S0 _ => impl_of ds S0)
  have tk := takes_of (X := cxOf (L2.CX P w) P w K mg base N_check_map "check_map" (defScope (topS 10)) f cdv A outer s H E) rfl rfl rfl rfl
  exact ⟨_, (zss_cons (zs_if (zt_not (kzt_tru (K := K) rfl (kze_call (K := K) (mg := mg) rfl rfl rfl h_has_row_form (hr.mono (by decide)) (by rfl) tk (za_cons (zv 0) (za_cons (zv 1) (za_cons (zv 2) za_nil)))))) (zss_one (zs_raise1 XC.m_BadMap rfl (hr.mono (by decide)) (by rfl) tk ze_non)) zss_nil)
    (zss_cons (zs_set (i := 3) sc.nd (kze_call (K := K) (mg := mg) rfl rfl rfl h_falling_pair (hr.mono (by decide)) (by rfl) tk (za_cons (zv 0) (za_cons (kze_call (K := K) (mg := mg) rfl rfl rfl h_with_selves (hr.mono (by decide)) (by rfl) tk (za_cons (kze_call (K := K) (mg := mg) rfl rfl rfl h_masks_above (hr.mono (by decide)) (by rfl) tk (za_cons (zv 1) za_nil)) za_nil)) (za_cons (zv 2) za_nil)))))
    (zss_one (zs_if (zt_cmp zo_isNot (zv 3) ze_non) (zss_one (zs_raise1 XC.m_BadMap rfl (hr.mono (by decide)) (by rfl) tk (zv 3))) zss_nil))))⟩
theorem sc__law_asked : FnScope N__law_asked ["first", "second", "row", "named"] (defScope (topS 25)) := ⟨rfl, rfl, rfl, by decide +kernel, rfl, by decide +kernel, by decide +kernel⟩
theorem fz__law_asked {f : Addr} {fd : FuncData} (B : Bi mg) (G : Gc mg) {cs : Cs} (XC : Xc P w K mg base cs) (h_check_map : FZ P w K mg base 9 "check_map" (topS 10) ["first", "second", "row"] F_check_map) (gm : mg "_law_asked" = some (.ref f)) (hF : Fun K "_law_asked" "_law_asked" (topS 25) f fd) (hb : Binds K fd ["first", "second", "row", "named"] []) : FZ P w K mg base 10 "_law_asked" (topS 25) ["first", "second", "row", "named"] F__law_asked := by
  have sc := sc__law_asked
  refine fz_of (run := run__law_asked) 0 gm hF sc hb (fun cdv A outer s H E hr => ?_) (fun ds S0 _ => impl_of ds S0)
  have tk := takes_of (X := cxOf (L2.CX P w) P w K mg base N__law_asked "_law_asked" (defScope (topS 25)) f cdv A outer s H E) rfl rfl rfl rfl
  exact ⟨_, (zss_cons (zs_tryAs (i := 4) (c := .ref cs.StrikeError) (cat := [("BadMap", true)]) rfl rfl sc.nd rfl rfl ⟨by rfl, by decide, Or.inl XC.g_StrikeError⟩ tk XC.x_StrikeError (fun W pn xe tk => (zss_cons (zs_if (kzt_tru (K := K) rfl (zv 3)) (zss_one (zs_ret (ze_tup (za_cons ze_str (za_cons (kze_callK0 (K := K) (mg := mg) (pm := [2, 1, 0]) (ks := ["row", "second", "first"]) rfl rfl rfl h_check_map (hr.mono (by decide)) (by rfl) tk (fun _ _ _ _ _ _ us ws h1 h2 => match us, ws, h1, h2 with | [], [_, _, _], _, _ => rfl) (zk_cons (zv 2) (zk_cons (ze_dget hr (zv 1) ze_str) (zk_cons (ze_dget hr (zv 0) ze_str) zk_nil)))) za_nil))))) zss_nil)
    (zss_one (zs_ret (ze_tup (za_cons ze_str (za_cons (kze_call (K := K) (mg := mg) rfl rfl rfl h_check_map (hr.mono (by decide)) (by rfl) tk (za_cons (ze_dget hr (zv 0) ze_str) (za_cons (ze_dget hr (zv 1) ze_str) (za_cons (zv 2) za_nil)))) za_nil))))))) (fun a oe cls d pn xv hz hf => letI : Hot := hotX K mg 4 a xv cls d; (zss_one (zs_if (ZW.zt (zw_and (kzt_tru (K := K) rfl (ze_isX (c := .ref cs.BadMap) (u := .ref cs.BadMap) (tab := [("BadMap", true)]) hz hf (by rfl) B.isinstance (pe_glob (by rfl) XC.g_BadMap rfl) (.own _) XC.i_0)) (zw_and1 (kzt_tru (K := K) rfl (ze_isX (c := .ty "ValueError") (u := .type "ValueError") (tab := [("BadMap", true)]) hz hf (by rfl) B.isinstance (pe_bltn (by rfl) XC.n_ValueError PyProof.Rows.Boot.«ValueError» rfl) (.ty _) XC.i_1))))) (zss_one (zs_if (zt_not (kzt_tru (K := K) rfl (ze_isXT (cs := [.ref cs.BadOrder, .ref cs.RingFound, .ref cs.TooLarge]) (us := [.ref cs.BadOrder, .ref cs.RingFound, .ref cs.TooLarge]) (tab := [("BadMap", false)]) hz hf (by rfl) B.isinstance (pa_cons (pe_glob (by rfl) XC.g_BadOrder rfl) (pa_cons (pe_glob (by rfl) XC.g_RingFound rfl) (pa_cons (pe_glob (by rfl) XC.g_TooLarge rfl) pa_nil))) (.cons (.own _) (.cons (.own _) (.cons (.own _) .nil))) (by show 3 ≤ 100; decide) XC.i_2))) (zss_one (zs_ret (ze_tup (za_cons ze_str (za_cons (ze_xf (L := ["BadMap"]) hz hf XC.f_pair) za_nil))))) zss_nil)) zss_nil))))
    (zss_one (zs_ret (ze_tup (za_cons ze_str (za_cons ze_non za_nil))))))⟩
theorem sc__law_rows_right : FnScope N__law_rows_right ["pool", "first", "second", "rows"] (defScope (topS 29)) := ⟨rfl, rfl, rfl, by decide +kernel, rfl, by decide +kernel, by decide +kernel⟩
theorem fz__law_rows_right {f : Addr} {fd : FuncData} (B : Bi mg) (G : Gc mg) (h__law_due : FZ P w K mg base 2 "_law_due" (topS 26) ["first", "second", "row"] F__law_due) (h__law_same : FZ P w K mg base 8 "_law_same" (topS 24) ["actual", "due"] (F__law_same 8)) (h__law_asked : FZ P w K mg base 10 "_law_asked" (topS 25) ["first", "second", "row", "named"] F__law_asked) (gm : mg "_law_rows_right" = some (.ref f)) (hF : Fun K "_law_rows_right" "_law_rows_right" (topS 29) f fd) (hb : Binds K fd ["pool", "first", "second", "rows"] []) : FZ P w K mg base 11 "_law_rows_right" (topS 29) ["pool", "first", "second", "rows"] F__law_rows_right := by
  have sc := sc__law_rows_right
  refine fz_of (run := run__law_rows_right) 0 gm hF sc hb (fun cdv A outer s H E hr => ?_) (fun ds S0 _ => impl_of ds S0)
  have tk := takes_of (X := cxOf (L2.CX P w) P w K mg base N__law_rows_right "_law_rows_right" (defScope (topS 29)) f cdv A outer s H E) rfl rfl rfl rfl
  exact ⟨_, (zss_cons (zs_for (passes_of rfl) rfl (kzi_src (K := K) rfl (zv 3)) (zg_name (i := 4) sc.nd) (zss_cons (zs_set (i := 5) sc.nd (kze_call (K := K) (mg := mg) rfl rfl rfl h__law_due (hr.mono (by decide)) (by rfl) tk (za_cons (zv 1) (za_cons (zv 2) (za_cons (zv 4) za_nil)))))
    (zss_cons (zs_if (zt_not (kzt_tru (K := K) rfl (kze_call (K := K) (mg := mg) rfl rfl rfl h__law_same (hr.mono (by decide)) (by rfl) tk (za_cons (kze_call (K := K) (mg := mg) rfl rfl rfl h__law_asked (hr.mono (by decide)) (by rfl) tk (za_cons (zv 1) (za_cons (zv 2) (za_cons (zv 4) (za_cons ze_bl za_nil))))) (za_cons (zv 5) za_nil))))) (zss_one (zs_ret ze_bl)) zss_nil)
    (zss_one (zs_if (zt_not (kzt_tru (K := K) rfl (kze_call (K := K) (mg := mg) rfl rfl rfl h__law_same (hr.mono (by decide)) (by rfl) tk (za_cons (kze_call (K := K) (mg := mg) rfl rfl rfl h__law_asked (hr.mono (by decide)) (by rfl) tk (za_cons (zv 1) (za_cons (zv 2) (za_cons (zv 4) (za_cons ze_bl za_nil))))) (za_cons (zv 5) za_nil))))) (zss_one (zs_ret ze_bl)) zss_nil)))))
    (zss_one (zs_ret ze_bl)))⟩
theorem sc__law_forms_right : FnScope N__law_forms_right ["pool", "first", "second", "rows"] (defScope (topS 30)) := ⟨rfl, rfl, rfl, by decide +kernel, rfl, by decide +kernel, by decide +kernel⟩
theorem fz__law_forms_right {f : Addr} {fd : FuncData} (B : Bi mg) (G : Gc mg) (h__law_forms : FZ P w K mg base 3 "_law_forms" (topS 28) ["pool", "row", "m"] F__law_forms) (h__law_same : FZ P w K mg base 8 "_law_same" (topS 24) ["actual", "due"] (F__law_same 8)) (h__law_asked : FZ P w K mg base 10 "_law_asked" (topS 25) ["first", "second", "row", "named"] F__law_asked) (h__law_take : FZ P w K mg base 2 "_law_take" (topS 16) ["pool", "many"] F__law_take) (gm : mg "_law_forms_right" = some (.ref f)) (hF : Fun K "_law_forms_right" "_law_forms_right" (topS 30) f fd) (hb : Binds K fd ["pool", "first", "second", "rows"] []) : FZ P w K mg base 11 "_law_forms_right" (topS 30) ["pool", "first", "second", "rows"] F__law_forms_right := by
  have sc := sc__law_forms_right
  refine fz_of (run := run__law_forms_right) 0 gm hF sc hb (fun cdv A outer s H E hr => ?_) (fun ds S0 _ => impl_of ds S0)
  have tk := takes_of (X := cxOf (L2.CX P w) P w K mg base N__law_forms_right "_law_forms_right" (defScope (topS 30)) f cdv A outer s H E) rfl rfl rfl rfl
  exact ⟨_, (zss_cons (zs_for (passes_of rfl) rfl (kzi_src (K := K) rfl (zv 3)) (zg_name (i := 4) sc.nd) (zss_one (zs_for (passes_of rfl) rfl (kzi_src (K := K) rfl (kze_call (K := K) (mg := mg) rfl rfl rfl h__law_forms (hr.mono (by decide)) (by rfl) tk (za_cons (zv 0) (za_cons (zv 4) (za_cons (kze_ix (K := K) rfl (ze_dget hr (zv 2) ze_str) ze_int) za_nil))))) (zg_name (i := 5) sc.nd) (zss_one (zs_if (zt_not (kzt_tru (K := K) rfl (kze_call (K := K) (mg := mg) rfl rfl rfl h__law_same (hr.mono (by decide)) (by rfl) tk (za_cons (kze_call (K := K) (mg := mg) rfl rfl rfl h__law_asked (hr.mono (by decide)) (by rfl) tk (za_cons (zv 1) (za_cons (zv 2) (za_cons (zv 5) (za_cons (ze_cmp (kzo_eq (K := K) rfl hr) (kze_call (K := K) (mg := mg) rfl rfl rfl h__law_take (hr.mono (by decide)) (by rfl) tk (za_cons (zv 0) (za_cons ze_int za_nil))) ze_int) za_nil))))) (za_cons (ze_tup (za_cons ze_str (za_cons ze_non za_nil))) za_nil))))) (zss_one (zs_ret ze_bl)) zss_nil)))))
    (zss_one (zs_ret ze_bl)))⟩
theorem sc__law_great_right : FnScope N__law_great_right ["pool"] (defScope (topS 31)) := ⟨rfl, rfl, rfl, by decide +kernel, rfl, by decide +kernel, by decide +kernel⟩
theorem fz__law_great_right {f : Addr} {fd : FuncData} (B : Bi mg) (G : Gc mg) (h__law_take : FZ P w K mg base 2 "_law_take" (topS 16) ["pool", "many"] F__law_take) (h__law_floors : FZ P w K mg base 4 "_law_floors" (topS 18) ["pool", "n", "wide"] F__law_floors) (h__law_changed : FZ P w K mg base 3 "_law_changed" (topS 27) ["pool", "row", "many", "m"] F__law_changed) (h__law_rows_right : FZ P w K mg base 11 "_law_rows_right" (topS 29) ["pool", "first", "second", "rows"] F__law_rows_right) (h__law_forms_right : FZ P w K mg base 11 "_law_forms_right" (topS 30) ["pool", "first", "second", "rows"] F__law_forms_right) (gm : mg "_law_great_right" = some (.ref f)) (hF : Fun K "_law_great_right" "_law_great_right" (topS 31) f fd) (hb : Binds K fd ["pool"] []) : FZ P w K mg base 12 "_law_great_right" (topS 31) ["pool"] F__law_great_right := by
  have sc := sc__law_great_right
  refine fz_of (run := run__law_great_right) 0 gm hF sc hb (fun cdv A outer s H E hr => ?_) (fun ds S0 _ => impl_of ds S0)
  have tk := takes_of (X := cxOf (L2.CX P w) P w K mg base N__law_great_right "_law_great_right" (defScope (topS 31)) f cdv A outer s H E) rfl rfl rfl rfl
  exact ⟨_, (zss_cons (zs_set (i := 1) sc.nd (ze_op (kzo_add (K := K) rfl) ze_int (kze_call (K := K) (mg := mg) rfl rfl rfl h__law_take (hr.mono (by decide)) (by rfl) tk (za_cons (zv 0) (za_cons ze_int za_nil)))))
    (zss_cons (zs_set (i := 2) sc.nd (kze_call (K := K) (mg := mg) rfl rfl rfl h__law_floors (hr.mono (by decide)) (by rfl) tk (za_cons (zv 0) (za_cons (zv 1) (za_cons (ze_op (kzo_add (K := K) rfl) ze_int (kze_call (K := K) (mg := mg) rfl rfl rfl h__law_take (hr.mono (by decide)) (by rfl) tk (za_cons (zv 0) (za_cons (zv 1) za_nil)))) za_nil)))))
    (zss_cons (zs_set (i := 3) sc.nd (kze_call (K := K) (mg := mg) rfl rfl rfl h__law_floors (hr.mono (by decide)) (by rfl) tk (za_cons (zv 0) (za_cons (ze_op (kzo_add (K := K) rfl) ze_int (kze_call (K := K) (mg := mg) rfl rfl rfl h__law_take (hr.mono (by decide)) (by rfl) tk (za_cons (zv 0) (za_cons ze_int za_nil)))) (za_cons ze_int za_nil)))))
    (zss_cons (zs_set (i := 4) sc.nd (kze_ix (K := K) rfl (ze_dget hr (zv 3) ze_str) ze_int))
    (zss_cons (zs_setLc (own := [("x", 7)]) (k := .cel) (i := 5) rfl rfl sc.nd rfl rfl (sw_true rfl rfl rfl (by decide +kernel)) (zi_range1 (by rfl) B.range (za_cons (zv 1) za_nil)) (by first | exact blkOk_by (N := N__law_great_right) (sc := defScope (topS 31)) (by decide +kernel) | exact blkOk_by (by with_unfolding_all rfl)) (fun _ _ _ _ _ => (zg_name (i := 7) sc.nd)) (fun _ _ _ _ _ => zts_nil) (fun _ _ _ _ _ => ze_int))
    (zss_cons (zs_set (i := 6) sc.nd ze_int)
    (zss_cons (zs_for (passes_of rfl) rfl (kzi_src (K := K) rfl (ze_dget hr (zv 2) ze_str)) (zg_name (i := 7) sc.nd) (zss_cons (zs_set (i := 6) sc.nd (ze_callB (call_min2 rfl) cs_min2 (by rfl) B.min (by decide +kernel) (za_cons (ze_op zo_sub (zv 4) ze_int) (za_cons (ze_op (kzo_add (K := K) rfl) (ze_callT call_int1 cs_int (by rfl) B.int boot_int (za_cons (zv 6) za_nil)) (kze_call (K := K) (mg := mg) rfl rfl rfl h__law_take (hr.mono (by decide)) (by rfl) tk (za_cons (zv 0) (za_cons ze_int za_nil)))) za_nil))))
    (zss_one (zs_put (zv 5) (zv 7) (kze_ix (K := K) rfl (ze_dget hr (zv 3) ze_str) (zv 6))))))
    (zss_cons (zs_set (i := 8) sc.nd (ze_lst (za_cons (ze_callT (kcall_tuple (K := K) rfl) kcs_tuple (by rfl) B.tuple (by decide +kernel) (za_cons (zv 5) za_nil)) (za_cons (kze_call (K := K) (mg := mg) rfl rfl rfl h__law_changed (hr.mono (by decide)) (by rfl) tk (za_cons (zv 0) (za_cons (zv 5) (za_cons ze_int (za_cons (zv 4) za_nil))))) (za_cons (kze_call (K := K) (mg := mg) rfl rfl rfl h__law_changed (hr.mono (by decide)) (by rfl) tk (za_cons (zv 0) (za_cons (zv 5) (za_cons ze_int (za_cons (zv 4) za_nil))))) za_nil)))))
    (zss_one (zs_ret (ze_and (kze_call (K := K) (mg := mg) rfl rfl rfl h__law_rows_right (hr.mono (by decide)) (by rfl) tk (za_cons (zv 0) (za_cons (zv 2) (za_cons (zv 3) (za_cons (zv 8) za_nil))))) (ze_one (kze_call (K := K) (mg := mg) rfl rfl rfl h__law_forms_right (hr.mono (by decide)) (by rfl) tk (za_cons (zv 0) (za_cons (zv 2) (za_cons (zv 3) (za_cons (kze_sl (K := K) rfl (zv 8) zp_none (zp_some ze_int)) za_nil)))))))))))))))))⟩
theorem sc_law : FnScope N_law ["script"] (defScope (topS 32)) := ⟨rfl, rfl, rfl, by decide +kernel, rfl, by decide +kernel, by decide +kernel⟩
theorem fz_law {f : Addr} {fd : FuncData} (B : Bi mg) (G : Gc mg) (h__law_pool : FZ P w K mg base 1 "_law_pool" (topS 15) ["script"] F__law_pool) (h__law_take : FZ P w K mg base 2 "_law_take" (topS 16) ["pool", "many"] F__law_take) (h__law_great_right : FZ P w K mg base 12 "_law_great_right" (topS 31) ["pool"] F__law_great_right) (h__law_drawn : FZ P w K mg base 5 "_law_drawn" (topS 19) ["pool", "n"] F__law_drawn) (h__law_forms_right : FZ P w K mg base 11 "_law_forms_right" (topS 30) ["pool", "first", "second", "rows"] F__law_forms_right) (h__law_map : FZ P w K mg base 3 "_law_map" (topS 22) ["pool", "first", "second"] F__law_map) (h__law_changed : FZ P w K mg base 3 "_law_changed" (topS 27) ["pool", "row", "many", "m"] F__law_changed) (h__law_rows_right : FZ P w K mg base 11 "_law_rows_right" (topS 29) ["pool", "first", "second", "rows"] F__law_rows_right) (gm : mg "law" = some (.ref f)) (hF : Fun K "law" "law" (topS 32) f fd) (hb : Binds K fd ["script"] []) : FZ P w K mg base 13 "law" (topS 32) ["script"] F_law := by
  have sc := sc_law
  refine fz_of (run := run_law) 0 gm hF sc hb (fun cdv A outer s H E hr => ?_) (fun ds S0 _ => impl_of ds S0)
  have tk := takes_of (X := cxOf (L2.CX P w) P w K mg base N_law "law" (defScope (topS 32)) f cdv A outer s H E) rfl rfl rfl rfl
  exact ⟨_, (zss_cons (zs_set (i := 1) sc.nd (kze_call (K := K) (mg := mg) rfl rfl rfl h__law_pool (hr.mono (by decide)) (by rfl) tk (za_cons (zv 0) za_nil)))
    (zss_cons (zs_if (zt_cmp (kzo_eq (K := K) rfl hr) (kze_call (K := K) (mg := mg) rfl rfl rfl h__law_take (hr.mono (by decide)) (by rfl) tk (za_cons (zv 1) (za_cons ze_int za_nil))) ze_int) (zss_one (zs_ret (kze_call (K := K) (mg := mg) rfl rfl rfl h__law_great_right (hr.mono (by decide)) (by rfl) tk (za_cons (zv 1) za_nil)))) zss_nil)
    (zss_cons (zs_set (i := 2) sc.nd (kze_call (K := K) (mg := mg) rfl rfl rfl h__law_drawn (hr.mono (by decide)) (by rfl) tk (za_cons (zv 1) (za_cons (kze_call (K := K) (mg := mg) rfl rfl rfl h__law_take (hr.mono (by decide)) (by rfl) tk (za_cons (zv 1) (za_cons ze_int za_nil))) za_nil))))
    (zss_cons (zs_set (i := 3) sc.nd (kze_call (K := K) (mg := mg) rfl rfl rfl h__law_drawn (hr.mono (by decide)) (by rfl) tk (za_cons (zv 1) (za_cons (kze_call (K := K) (mg := mg) rfl rfl rfl h__law_take (hr.mono (by decide)) (by rfl) tk (za_cons (zv 1) (za_cons ze_int za_nil))) za_nil))))
    (zss_cons (zs_set (i := 4) sc.nd (kze_ix (K := K) rfl (ze_dget hr (zv 2) ze_str) ze_int))
    (zss_cons (zs_set (i := 5) sc.nd (kze_ix (K := K) rfl (ze_dget hr (zv 3) ze_str) ze_int))
    (zss_cons (zs_if (ZW.zt (zw_and (zt_cmp (kzo_eq (K := K) rfl hr) (zv 5) ze_int) (zw_and1 (zt_cmp zo_gt (zv 4) ze_int)))) (zss_one (zs_ret (kze_call (K := K) (mg := mg) rfl rfl rfl h__law_forms_right (hr.mono (by decide)) (by rfl) tk (za_cons (zv 1) (za_cons (zv 2) (za_cons (zv 3) (za_cons (ze_lst (za_cons (ze_op (kzo_mulT (K := K) rfl) (ze_tup (za_cons ze_int za_nil)) (zv 4)) za_nil)) za_nil))))))) zss_nil)
    (zss_cons (zs_set (i := 6) sc.nd (kze_call (K := K) (mg := mg) rfl rfl rfl h__law_map (hr.mono (by decide)) (by rfl) tk (za_cons (zv 1) (za_cons (zv 2) (za_cons (zv 3) za_nil)))))
    (zss_cons (zs_set (i := 7) sc.nd (ze_lstC (za_cons (zv 6) (za_cons (kze_call (K := K) (mg := mg) rfl rfl rfl h__law_changed (hr.mono (by decide)) (by rfl) tk (za_cons (zv 1) (za_cons (zv 6) (za_cons ze_int (za_cons (zv 5) za_nil))))) (za_cons (kze_call (K := K) (mg := mg) rfl rfl rfl h__law_changed (hr.mono (by decide)) (by rfl) tk (za_cons (zv 1) (za_cons (zv 6) (za_cons ze_int (za_cons (zv 5) za_nil))))) za_nil)))))
    (zss_cons (zs_expr (kze_methL (K := K) rfl PySem.F.slot_list_append PySem.F.type_list_append mt_append ms_append (zv 7) (za_cons (ze_callT (kcall_tuple (K := K) rfl) kcs_tuple (by rfl) B.tuple (by decide +kernel) (za_cons (ze_lc (own := [("x", 8)]) (k := .frz) rfl rfl sc.nd (zi_range1 (by rfl) B.range (za_cons (zv 4) za_nil)) (by first | exact blkOk_by (N := N_law) (sc := defScope (topS 32)) (by decide +kernel) | exact blkOk_by (by with_unfolding_all rfl)) (fun _ _ _ _ _ => (zg_name (i := 8) sc.nd)) (fun _ _ _ _ _ => zts_nil) (fun _ _ _ _ _ => (kze_call (K := K) (mg := mg) rfl rfl rfl h__law_take (hr.mono (by decide)) (by rfl) takes0 (za_cons (zv 1) (za_cons (zv 5) za_nil))))) za_nil)) za_nil)))
    (zss_one (zs_ret (ze_and (kze_call (K := K) (mg := mg) rfl rfl rfl h__law_rows_right (hr.mono (by decide)) (by rfl) tk (za_cons (zv 1) (za_cons (zv 2) (za_cons (zv 3) (za_cons (zv 7) za_nil))))) (ze_one (kze_call (K := K) (mg := mg) rfl rfl rfl h__law_forms_right (hr.mono (by decide)) (by rfl) tk (za_cons (zv 1) (za_cons (zv 2) (za_cons (zv 3) (za_cons (ze_lst (za_cons (zv 6) (za_cons (kze_ix (K := K) rfl (zv 7) ze_int) za_nil))) za_nil)))))))))))))))))))⟩
end
end K09

namespace K09
open PySem L2 Z K06 K10
open PySem.Spec PyProof.Rows
theorem kit_own {K : PySem.W.Frag} {D T : Addr} {b : Bool} (h : PySem.W.subIn K (.ref D) (.ref T) = some b) (self : PySem.W.subIn K (.ref D) (.ref D) = some true) (hc : PySem.W.isClsIn K T = true) (ht : PySem.W.typeIn K (.ref T) = some (.type "type")) : PySem.W.kitOne K (.ref D) (.ref T) = some b := by
  unfold PySem.W.kitOne
  by_cases e : D = T
  · subst e
    rw [self] at h
    cases h
    rw [if_pos (by simp)]
  · rw [if_neg (by simp [e])]
    have hc' : (PySem.W.clsIn K T).isSome = true := hc
    unfold PySem.W.kitCls
    simp only [hc', ht, Bool.true_and]
    rw [if_pos (by rfl)]
    exact h
theorem kit_blt {K : PySem.W.Frag} {D : Addr} {T : String} {b : Bool} (h : PySem.W.subIn K (.ref D) (.type T) = some b) (hk : PySem.W.kitMeta T = true) : PySem.W.kitOne K (.ref D) (.type T) = some b := by
  unfold PySem.W.kitOne
  rw [if_neg (by intro q; cases beq_iff_eq.mp q)]
  show (if PySem.W.kitMeta T = true then PySem.W.subIn K (.ref D) (.type T) else none) = some b
  rw [if_pos hk]
  exact h
theorem kitAny_t {K : PySem.W.Frag} {t c : Value} {r : List Value} (h : PySem.W.kitOne K t c = some true) : PySem.W.kitAny K t (c :: r) = some true := by
  unfold PySem.W.kitAny; rw [h]
theorem kitAny_f {K : PySem.W.Frag} {t c : Value} {r : List Value} {b : Bool} (h : PySem.W.kitOne K t c = some false) (h2 : PySem.W.kitAny K t r = some b) : PySem.W.kitAny K t (c :: r) = some b := by
  unfold PySem.W.kitAny; rw [h]; exact h2
theorem kitAny_n {K : PySem.W.Frag} {t : Value} : PySem.W.kitAny K t [] = some false := rfl
theorem one_of {α β : Type} [BEq α] [LawfulBEq α] {a n : α} {v b : β} (h : ([(a, v)] : List (α × β)).lookup n = some b) : n = a ∧ b = v := by
  rw [List.lookup_cons] at h
  by_cases e : n = a
  · rw [e] at h
    simp at h
    exact ⟨e, h.symm⟩
  · have e2 : (n == a) = false := by simpa using e
    rw [e2] at h
    cases h
theorem all_mk {w : World} {K : PySem.W.Frag} {h : Heap} {mg : Str → Option Value} {fa f0 f1 f2 f3 f4 f5 f6 f7 f8 f9 f10 f11 f12 f13 f14 f15 f16 f17 f18 f19 f20 f21 f22 f23 : Addr} (X : K.In h) (G : h.Ns mainGlobals mg) (hfa : mg "law" = some (.ref fa)) (own : ∀ nm ∈ (["has_row_form"] : List Str), ∃ c P, TabD mg h nm c P)
    {od0 an0 od1 an1 od2 an2 od3 an3 od4 an4 od5 an5 od6 an6 od7 an7 od8 an8 od9 an9 od10 an10 od11 an11 od12 an12 od13 an13 od14 an14 od15 an15 od16 an16 od17 an17 od18 an18 od19 an19 od20 an20 od21 an21 od22 an22 od23 an23 : Option Addr} {sl0 sl1 sl2 sl3 sl4 sl5 sl6 sl7 sl8 sl9 sl10 sl11 sl12 sl13 sl14 sl15 sl16 sl17 sl18 sl19 sl20 sl21 sl22 sl23 : Array (Option Value)} {oc0 kV0 dc0 pm0 cd0 ct0 oc1 kV1 dc1 pm1 cd1 ct1 oc2 kV2 dc2 pm2 cd2 ct2 oc3 kV3 dc3 pm3 cd3 ct3 oc4 kV4 dc4 pm4 cd4 ct4 oc5 kV5 dc5 pm5 cd5 ct5 oc6 kV6 dc6 pm6 cd6 ct6 oc7 kV7 dc7 pm7 cd7 ct7 oc8 kV8 dc8 pm8 cd8 ct8 oc9 kV9 dc9 pm9 cd9 ct9 oc10 kV10 dc10 pm10 cd10 ct10 oc11 kV11 dc11 pm11 cd11 ct11 oc12 kV12 dc12 pm12 cd12 ct12 oc13 kV13 dc13 pm13 cd13 ct13 oc14 kV14 dc14 pm14 cd14 ct14 oc15 kV15 dc15 pm15 cd15 ct15 oc16 kV16 dc16 pm16 cd16 ct16 oc17 kV17 dc17 pm17 cd17 ct17 oc18 kV18 dc18 pm18 cd18 ct18 oc19 kV19 dc19 pm19 cd19 ct19 oc20 kV20 dc20 pm20 cd20 ct20 oc21 kV21 dc21 pm21 cd21 ct21 oc22 kV22 dc22 pm22 cd22 ct22 oc23 kV23 dc23 pm23 cd23 ct23 : Value}
    (a0 : PySem.W.nsIn K mainGlobals "_law_same" = some (some (.ref f0))) (l0 : K.lookup f0 = some ⟨oc0, od0, .func (PySem.W.fnOf "_law_same" "_law_same" (defArgs (topS 24)) (defBody (topS 24)) (defScope (topS 24)) .none kV0 dc0 pm0 an0 cd0 ct0), sl0⟩) (c0 : PySem.W.codeIn K cd0 "_law_same" = true) (k0 : PySem.W.keepIn K (.ref f0) = true)
    (a1 : PySem.W.nsIn K mainGlobals "masks_above" = some (some (.ref f1))) (l1 : K.lookup f1 = some ⟨oc1, od1, .func (PySem.W.fnOf "masks_above" "masks_above" (defArgs (topS 7)) (defBody (topS 7)) (defScope (topS 7)) .none kV1 dc1 pm1 an1 cd1 ct1), sl1⟩) (c1 : PySem.W.codeIn K cd1 "masks_above" = true) (k1 : PySem.W.keepIn K (.ref f1) = true)
    (a2 : PySem.W.nsIn K mainGlobals "with_selves" = some (some (.ref f2))) (l2 : K.lookup f2 = some ⟨oc2, od2, .func (PySem.W.fnOf "with_selves" "with_selves" (defArgs (topS 8)) (defBody (topS 8)) (defScope (topS 8)) .none kV2 dc2 pm2 an2 cd2 ct2), sl2⟩) (c2 : PySem.W.codeIn K cd2 "with_selves" = true) (k2 : PySem.W.keepIn K (.ref f2) = true)
    (a3 : PySem.W.nsIn K mainGlobals "falling_pair" = some (some (.ref f3))) (l3 : K.lookup f3 = some ⟨oc3, od3, .func (PySem.W.fnOf "falling_pair" "falling_pair" (defArgs (topS 12)) (defBody (topS 12)) (defScope (topS 12)) .none kV3 dc3 pm3 an3 cd3 ct3), sl3⟩) (c3 : PySem.W.codeIn K cd3 "falling_pair" = true) (k3 : PySem.W.keepIn K (.ref f3) = true)
    (a4 : PySem.W.nsIn K mainGlobals "_law_mixed" = some (some (.ref f4))) (l4 : K.lookup f4 = some ⟨oc4, od4, .func (PySem.W.fnOf "_law_mixed" "_law_mixed" (defArgs (topS 14)) (defBody (topS 14)) (defScope (topS 14)) .none kV4 dc4 pm4 an4 cd4 ct4), sl4⟩) (c4 : PySem.W.codeIn K cd4 "_law_mixed" = true) (k4 : PySem.W.keepIn K (.ref f4) = true)
    (a5 : PySem.W.nsIn K mainGlobals "_law_pool" = some (some (.ref f5))) (l5 : K.lookup f5 = some ⟨oc5, od5, .func (PySem.W.fnOf "_law_pool" "_law_pool" (defArgs (topS 15)) (defBody (topS 15)) (defScope (topS 15)) .none kV5 dc5 pm5 an5 cd5 ct5), sl5⟩) (c5 : PySem.W.codeIn K cd5 "_law_pool" = true) (k5 : PySem.W.keepIn K (.ref f5) = true)
    (a6 : PySem.W.nsIn K mainGlobals "_law_space" = some (some (.ref f6))) (l6 : K.lookup f6 = some ⟨oc6, od6, .func (PySem.W.fnOf "_law_space" "_law_space" (defArgs (topS 20)) (defBody (topS 20)) (defScope (topS 20)) .none kV6 dc6 pm6 an6 cd6 ct6), sl6⟩) (c6 : PySem.W.codeIn K cd6 "_law_space" = true) (k6 : PySem.W.keepIn K (.ref f6) = true)
    (a7 : PySem.W.nsIn K mainGlobals "_law_leq" = some (some (.ref f7))) (l7 : K.lookup f7 = some ⟨oc7, od7, .func (PySem.W.fnOf "_law_leq" "_law_leq" (defArgs (topS 21)) (defBody (topS 21)) (defScope (topS 21)) .none kV7 dc7 pm7 an7 cd7 ct7), sl7⟩) (c7 : PySem.W.codeIn K cd7 "_law_leq" = true) (k7 : PySem.W.keepIn K (.ref f7) = true)
    (a8 : PySem.W.nsIn K mainGlobals "_law_take" = some (some (.ref f8))) (l8 : K.lookup f8 = some ⟨oc8, od8, .func (PySem.W.fnOf "_law_take" "_law_take" (defArgs (topS 16)) (defBody (topS 16)) (defScope (topS 16)) .none kV8 dc8 pm8 an8 cd8 ct8), sl8⟩) (c8 : PySem.W.codeIn K cd8 "_law_take" = true) (k8 : PySem.W.keepIn K (.ref f8) = true)
    (a9 : PySem.W.nsIn K mainGlobals "_law_bounds" = some (some (.ref f9))) (l9 : K.lookup f9 = some ⟨oc9, od9, .func (PySem.W.fnOf "_law_bounds" "_law_bounds" (defArgs (topS 23)) (defBody (topS 23)) (defScope (topS 23)) .none kV9 dc9 pm9 an9 cd9 ct9), sl9⟩) (c9 : PySem.W.codeIn K cd9 "_law_bounds" = true) (k9 : PySem.W.keepIn K (.ref f9) = true)
    (a10 : PySem.W.nsIn K mainGlobals "_law_due" = some (some (.ref f10))) (l10 : K.lookup f10 = some ⟨oc10, od10, .func (PySem.W.fnOf "_law_due" "_law_due" (defArgs (topS 26)) (defBody (topS 26)) (defScope (topS 26)) .none kV10 dc10 pm10 an10 cd10 ct10), sl10⟩) (c10 : PySem.W.codeIn K cd10 "_law_due" = true) (k10 : PySem.W.keepIn K (.ref f10) = true)
    (a11 : PySem.W.nsIn K mainGlobals "_law_names" = some (some (.ref f11))) (l11 : K.lookup f11 = some ⟨oc11, od11, .func (PySem.W.fnOf "_law_names" "_law_names" (defArgs (topS 17)) (defBody (topS 17)) (defScope (topS 17)) .none kV11 dc11 pm11 an11 cd11 ct11), sl11⟩) (c11 : PySem.W.codeIn K cd11 "_law_names" = true) (k11 : PySem.W.keepIn K (.ref f11) = true)
    (a12 : PySem.W.nsIn K mainGlobals "_law_map" = some (some (.ref f12))) (l12 : K.lookup f12 = some ⟨oc12, od12, .func (PySem.W.fnOf "_law_map" "_law_map" (defArgs (topS 22)) (defBody (topS 22)) (defScope (topS 22)) .none kV12 dc12 pm12 an12 cd12 ct12), sl12⟩) (c12 : PySem.W.codeIn K cd12 "_law_map" = true) (k12 : PySem.W.keepIn K (.ref f12) = true)
    (a13 : PySem.W.nsIn K mainGlobals "_law_changed" = some (some (.ref f13))) (l13 : K.lookup f13 = some ⟨oc13, od13, .func (PySem.W.fnOf "_law_changed" "_law_changed" (defArgs (topS 27)) (defBody (topS 27)) (defScope (topS 27)) .none kV13 dc13 pm13 an13 cd13 ct13), sl13⟩) (c13 : PySem.W.codeIn K cd13 "_law_changed" = true) (k13 : PySem.W.keepIn K (.ref f13) = true)
    (a14 : PySem.W.nsIn K mainGlobals "_law_forms" = some (some (.ref f14))) (l14 : K.lookup f14 = some ⟨oc14, od14, .func (PySem.W.fnOf "_law_forms" "_law_forms" (defArgs (topS 28)) (defBody (topS 28)) (defScope (topS 28)) .none kV14 dc14 pm14 an14 cd14 ct14), sl14⟩) (c14 : PySem.W.codeIn K cd14 "_law_forms" = true) (k14 : PySem.W.keepIn K (.ref f14) = true)
    (a15 : PySem.W.nsIn K mainGlobals "_law_floors" = some (some (.ref f15))) (l15 : K.lookup f15 = some ⟨oc15, od15, .func (PySem.W.fnOf "_law_floors" "_law_floors" (defArgs (topS 18)) (defBody (topS 18)) (defScope (topS 18)) .none kV15 dc15 pm15 an15 cd15 ct15), sl15⟩) (c15 : PySem.W.codeIn K cd15 "_law_floors" = true) (k15 : PySem.W.keepIn K (.ref f15) = true)
    (a16 : PySem.W.nsIn K mainGlobals "_law_drawn" = some (some (.ref f16))) (l16 : K.lookup f16 = some ⟨oc16, od16, .func (PySem.W.fnOf "_law_drawn" "_law_drawn" (defArgs (topS 19)) (defBody (topS 19)) (defScope (topS 19)) .none kV16 dc16 pm16 an16 cd16 ct16), sl16⟩) (c16 : PySem.W.codeIn K cd16 "_law_drawn" = true) (k16 : PySem.W.keepIn K (.ref f16) = true)
    (a17 : PySem.W.nsIn K mainGlobals "has_row_form" = some (some (.ref f17))) (l17 : K.lookup f17 = some ⟨oc17, od17, .func (PySem.W.fnOf "has_row_form" "has_row_form" (defArgs (topS 11)) (defBody (topS 11)) (defScope (topS 11)) .none kV17 dc17 pm17 an17 cd17 ct17), sl17⟩) (c17 : PySem.W.codeIn K cd17 "has_row_form" = true) (k17 : PySem.W.keepIn K (.ref f17) = true)
    (a18 : PySem.W.nsIn K mainGlobals "check_map" = some (some (.ref f18))) (l18 : K.lookup f18 = some ⟨oc18, od18, .func (PySem.W.fnOf "check_map" "check_map" (defArgs (topS 10)) (defBody (topS 10)) (defScope (topS 10)) .none kV18 dc18 pm18 an18 cd18 ct18), sl18⟩) (c18 : PySem.W.codeIn K cd18 "check_map" = true) (k18 : PySem.W.keepIn K (.ref f18) = true)
    (a19 : PySem.W.nsIn K mainGlobals "_law_asked" = some (some (.ref f19))) (l19 : K.lookup f19 = some ⟨oc19, od19, .func (PySem.W.fnOf "_law_asked" "_law_asked" (defArgs (topS 25)) (defBody (topS 25)) (defScope (topS 25)) .none kV19 dc19 pm19 an19 cd19 ct19), sl19⟩) (c19 : PySem.W.codeIn K cd19 "_law_asked" = true) (k19 : PySem.W.keepIn K (.ref f19) = true)
    (a20 : PySem.W.nsIn K mainGlobals "_law_rows_right" = some (some (.ref f20))) (l20 : K.lookup f20 = some ⟨oc20, od20, .func (PySem.W.fnOf "_law_rows_right" "_law_rows_right" (defArgs (topS 29)) (defBody (topS 29)) (defScope (topS 29)) .none kV20 dc20 pm20 an20 cd20 ct20), sl20⟩) (c20 : PySem.W.codeIn K cd20 "_law_rows_right" = true) (k20 : PySem.W.keepIn K (.ref f20) = true)
    (a21 : PySem.W.nsIn K mainGlobals "_law_forms_right" = some (some (.ref f21))) (l21 : K.lookup f21 = some ⟨oc21, od21, .func (PySem.W.fnOf "_law_forms_right" "_law_forms_right" (defArgs (topS 30)) (defBody (topS 30)) (defScope (topS 30)) .none kV21 dc21 pm21 an21 cd21 ct21), sl21⟩) (c21 : PySem.W.codeIn K cd21 "_law_forms_right" = true) (k21 : PySem.W.keepIn K (.ref f21) = true)
    (a22 : PySem.W.nsIn K mainGlobals "_law_great_right" = some (some (.ref f22))) (l22 : K.lookup f22 = some ⟨oc22, od22, .func (PySem.W.fnOf "_law_great_right" "_law_great_right" (defArgs (topS 31)) (defBody (topS 31)) (defScope (topS 31)) .none kV22 dc22 pm22 an22 cd22 ct22), sl22⟩) (c22 : PySem.W.codeIn K cd22 "_law_great_right" = true) (k22 : PySem.W.keepIn K (.ref f22) = true)
    (a23 : PySem.W.nsIn K mainGlobals "law" = some (some (.ref f23))) (l23 : K.lookup f23 = some ⟨oc23, od23, .func (PySem.W.fnOf "law" "law" (defArgs (topS 32)) (defBody (topS 32)) (defScope (topS 32)) .none kV23 dc23 pm23 an23 cd23 ct23), sl23⟩) (c23 : PySem.W.codeIn K cd23 "law" = true) (k23 : PySem.W.keepIn K (.ref f23) = true)
    {C_BadMap C_BadOrder C_RingFound C_StrikeError C_TooLarge : Addr} {nm_BadMap q_BadMap : Str} {N_BadMap I_BadMap : Addr} {bs_BadMap : List Value} {sn_BadMap : List Str} {sub_BadMap : List Value} {ab_BadMap : Bool} {col_BadMap : Option Bool} {dd_BadMap : Option Addr} {m0_BadMap m1_BadMap m2_BadMap m3_BadMap m5_BadMap : Option Value} {odI_BadMap anI_BadMap : Option Addr} {slI_BadMap : Array (Option Value)} {ocI_BadMap kVI_BadMap dcI_BadMap pmI_BadMap cdI_BadMap ctI_BadMap : Value}
    (Xa_BadMap : PySem.W.nsIn K mainGlobals "BadMap" = some (some (.ref C_BadMap)))
    (Xt_BadMap : PySem.W.typeIn K (.ref C_BadMap) = some (.type "type"))
    (Xs_BadMap : PySem.W.isClsIn K C_BadMap = true)
    (Xh_BadMap : PySem.W.hasDictIn K C_BadMap = true)
    (Xe_BadMap : PySem.W.subIn K (.ref C_BadMap) (.type "BaseException") = some true)
    (Xa_BadOrder : PySem.W.nsIn K mainGlobals "BadOrder" = some (some (.ref C_BadOrder)))
    (Xt_BadOrder : PySem.W.typeIn K (.ref C_BadOrder) = some (.type "type"))
    (Xs_BadOrder : PySem.W.isClsIn K C_BadOrder = true)
    (Xh_BadOrder : PySem.W.hasDictIn K C_BadOrder = true)
    (Xe_BadOrder : PySem.W.subIn K (.ref C_BadOrder) (.type "BaseException") = some true)
    (Xa_RingFound : PySem.W.nsIn K mainGlobals "RingFound" = some (some (.ref C_RingFound)))
    (Xt_RingFound : PySem.W.typeIn K (.ref C_RingFound) = some (.type "type"))
    (Xs_RingFound : PySem.W.isClsIn K C_RingFound = true)
    (Xh_RingFound : PySem.W.hasDictIn K C_RingFound = true)
    (Xe_RingFound : PySem.W.subIn K (.ref C_RingFound) (.type "BaseException") = some true)
    (Xa_StrikeError : PySem.W.nsIn K mainGlobals "StrikeError" = some (some (.ref C_StrikeError)))
    (Xt_StrikeError : PySem.W.typeIn K (.ref C_StrikeError) = some (.type "type"))
    (Xs_StrikeError : PySem.W.isClsIn K C_StrikeError = true)
    (Xh_StrikeError : PySem.W.hasDictIn K C_StrikeError = true)
    (Xe_StrikeError : PySem.W.subIn K (.ref C_StrikeError) (.type "BaseException") = some true)
    (Xa_TooLarge : PySem.W.nsIn K mainGlobals "TooLarge" = some (some (.ref C_TooLarge)))
    (Xt_TooLarge : PySem.W.typeIn K (.ref C_TooLarge) = some (.type "type"))
    (Xs_TooLarge : PySem.W.isClsIn K C_TooLarge = true)
    (Xh_TooLarge : PySem.W.hasDictIn K C_TooLarge = true)
    (Xe_TooLarge : PySem.W.subIn K (.ref C_TooLarge) (.type "BaseException") = some true)
    (Xn_ValueError : PySem.W.nsIn K mainGlobals "ValueError" = some none)
    (Xsp : PySem.W.specialIn K (.builtin "object.__class__") "__get__" = some (some (.builtin "getset_descriptor.__get__")))
    (Xtk : PySem.W.takesIn K (.builtin "object.__class__") = some true)
    (XL_BadMap : K.lookup C_BadMap = some (excClassObj nm_BadMap q_BadMap C_BadMap N_BadMap bs_BadMap [.ref C_StrikeError, .type "ValueError", .type "Exception", .type "BaseException", .type "object"] true sn_BadMap sub_BadMap ab_BadMap col_BadMap dd_BadMap m0_BadMap m1_BadMap m2_BadMap m3_BadMap m5_BadMap "ValueError.__new__"))
    (Xsa_BadMap : PySem.W.findIn K (.ref C_BadMap) "__setattr__" = some (some (.builtin "object.__setattr__")))
    (Xga_BadMap : PySem.W.findIn K (.ref C_BadMap) "__getattribute__" = some (some (.builtin "BaseException.__getattribute__")))
    (Xgg_BadMap : PySem.W.findIn K (.ref C_BadMap) "__getattr__" = some none)
    (Xcl_BadMap : PySem.W.findIn K (.ref C_BadMap) "__class__" = some (some (.builtin "object.__class__")))
    (Xno_BadMap : PySem.W.findIn K (.ref C_BadMap) "pair" = some none)
    (XI_BadMap : PySem.W.findIn K (.ref C_BadMap) "__init__" = some (some (.ref I_BadMap)))
    (XT_BadMap : PySem.W.typeIn K (.ref I_BadMap) = some (.type "function"))
    (Xl_BadMap : K.lookup I_BadMap = some ⟨ocI_BadMap, odI_BadMap, .func (PySem.W.fnOf "__init__" "BadMap.__init__" (defArgs (inClass 0 (topS 4))) (defBody (inClass 0 (topS 4))) (defScope (inClass 0 (topS 4))) .none kVI_BadMap dcI_BadMap pmI_BadMap anI_BadMap cdI_BadMap ctI_BadMap), slI_BadMap⟩)
    (Xc_BadMap : PySem.W.codeIn K cdI_BadMap "BadMap.__init__" = true)
    (Xk_BadMap : PySem.W.keepIn K (.ref I_BadMap) = true)
    (XK_BadMap : PySem.W.keepIn K (.ref C_BadMap) = true)
    (Xm_BadMap : PySem.W.mroIn K C_BadMap (.type "object") = some true)
    (Xu_BadMap_BadMap : PySem.W.subIn K (.ref C_BadMap) (.ref C_BadMap) = some true)
    (Xu_BadMap_BadOrder : PySem.W.subIn K (.ref C_BadMap) (.ref C_BadOrder) = some false)
    (Xu_BadMap_RingFound : PySem.W.subIn K (.ref C_BadMap) (.ref C_RingFound) = some false)
    (Xu_BadMap_StrikeError : PySem.W.subIn K (.ref C_BadMap) (.ref C_StrikeError) = some true)
    (Xu_BadMap_TooLarge : PySem.W.subIn K (.ref C_BadMap) (.ref C_TooLarge) = some false)
    (Xv_BadMap_ValueError : PySem.W.subIn K (.ref C_BadMap) (.type "ValueError") = some true)
    (nt : PySem.W.noTabs K = true)
    (z_len : PySem.W.nsIn K mainGlobals "len" = some none) (z_range : PySem.W.nsIn K mainGlobals "range" = some none) (z_enumerate : PySem.W.nsIn K mainGlobals "enumerate" = some none) (z_abs : PySem.W.nsIn K mainGlobals "abs" = some none) (z_int : PySem.W.nsIn K mainGlobals "int" = some none) (z_bool : PySem.W.nsIn K mainGlobals "bool" = some none) (z_tuple : PySem.W.nsIn K mainGlobals "tuple" = some none) (z_list : PySem.W.nsIn K mainGlobals "list" = some none) (z_str : PySem.W.nsIn K mainGlobals "str" = some none) (z_dict : PySem.W.nsIn K mainGlobals "dict" = some none) (z_isinstance : PySem.W.nsIn K mainGlobals "isinstance" = some none) (z_sorted : PySem.W.nsIn K mainGlobals "sorted" = some none) (z_min : PySem.W.nsIn K mainGlobals "min" = some none) (z_max : PySem.W.nsIn K mainGlobals "max" = some none) (z_reversed : PySem.W.nsIn K mainGlobals "reversed" = some none) (z_any : PySem.W.nsIn K mainGlobals "any" = some none) (z_all : PySem.W.nsIn K mainGlobals "all" = some none) (z_sum : PySem.W.nsIn K mainGlobals "sum" = some none) (z_zip : PySem.W.nsIn K mainGlobals "zip" = some none) :
    LamX.LawAtS PySem.Challenge.rw_strikecore_k09_least_wrong_pair w K (L2.CX PySem.Challenge.pw_strikecore_k09_least_wrong_pair w) 13 63 "script" mg fa h := by
  obtain ⟨tb, ht⟩ := tabs_of own
  letI : Tabs := ⟨(["has_row_form"] : List Str).map fun n => (tb n).2⟩
  have e := hfa.symm.trans (PySem.W.mg_of X G a23)
  cases e
  have B : Bi mg := ⟨PySem.W.mg_none_of X G z_len, PySem.W.mg_none_of X G z_range, PySem.W.mg_none_of X G z_enumerate, PySem.W.mg_none_of X G z_abs, PySem.W.mg_none_of X G z_int, PySem.W.mg_none_of X G z_bool, PySem.W.mg_none_of X G z_tuple, PySem.W.mg_none_of X G z_list, PySem.W.mg_none_of X G z_str, PySem.W.mg_none_of X G z_dict, PySem.W.mg_none_of X G z_isinstance, PySem.W.mg_none_of X G z_sorted, PySem.W.mg_none_of X G z_min, PySem.W.mg_none_of X G z_max, PySem.W.mg_none_of X G z_reversed, PySem.W.mg_none_of X G z_any, PySem.W.mg_none_of X G z_all, PySem.W.mg_none_of X G z_sum, PySem.W.mg_none_of X G z_zip⟩
  have GC : Gc mg := {}
  have F0 := fun_mk (st := topS 24) l0 c0 k0
  have b0 := F0.binds (ps := ["actual", "due"]) fun _ _ _ _ _ _ us hl => match us, hl with | [_, _], _ => rfl
  have F1 := fun_mk (st := topS 7) l1 c1 k1
  have b1 := F1.binds (ps := ["order"]) fun _ _ _ _ _ _ us hl => match us, hl with | [_], _ => rfl
  have F2 := fun_mk (st := topS 8) l2 c2 k2
  have b2 := F2.binds (ps := ["masks"]) fun _ _ _ _ _ _ us hl => match us, hl with | [_], _ => rfl
  have F3 := fun_mk (st := topS 12) l3 c3 k3
  have b3 := F3.binds (ps := ["first", "higher", "row"]) fun _ _ _ _ _ _ us hl => match us, hl with | [_, _, _], _ => rfl
  have F4 := fun_mk (st := topS 14) l4 c4 k4
  have b4 := F4.binds (ps := ["number", "turn", "many"]) fun _ _ _ _ _ _ us hl => match us, hl with | [_, _, _], _ => rfl
  have F5 := fun_mk (st := topS 15) l5 c5 k5
  have b5 := F5.binds (ps := ["script"]) fun _ _ _ _ _ _ us hl => match us, hl with | [_], _ => rfl
  have F6 := fun_mk (st := topS 20) l6 c6 k6
  have b6 := F6.binds (ps := ["names", "up"]) fun _ _ _ _ _ _ us hl => match us, hl with | [_, _], _ => rfl
  have F7 := fun_mk (st := topS 21) l7 c7 k7
  have b7 := F7.binds (ps := ["space", "a", "b"]) fun _ _ _ _ _ _ us hl => match us, hl with | [_, _, _], _ => rfl
  have F8 := fun_mk (st := topS 16) l8 c8 k8
  have b8 := F8.binds (ps := ["pool", "many"]) fun _ _ _ _ _ _ us hl => match us, hl with | [_, _], _ => rfl
  have F9 := fun_mk (st := topS 23) l9 c9 k9
  have b9 := F9.binds (ps := ["space", "values", "q"]) fun _ _ _ _ _ _ us hl => match us, hl with | [_, _, _], _ => rfl
  have F10 := fun_mk (st := topS 26) l10 c10 k10
  have b10 := F10.binds (ps := ["first", "second", "row"]) fun _ _ _ _ _ _ us hl => match us, hl with | [_, _, _], _ => rfl
  have F11 := fun_mk (st := topS 17) l11 c11 k11
  have b11 := F11.binds (ps := ["pool", "n"]) fun _ _ _ _ _ _ us hl => match us, hl with | [_, _], _ => rfl
  have F12 := fun_mk (st := topS 22) l12 c12 k12
  have b12 := F12.binds (ps := ["pool", "first", "second"]) fun _ _ _ _ _ _ us hl => match us, hl with | [_, _, _], _ => rfl
  have F13 := fun_mk (st := topS 27) l13 c13 k13
  have b13 := F13.binds (ps := ["pool", "row", "many", "m"]) fun _ _ _ _ _ _ us hl => match us, hl with | [_, _, _, _], _ => rfl
  have F14 := fun_mk (st := topS 28) l14 c14 k14
  have b14 := F14.binds (ps := ["pool", "row", "m"]) fun _ _ _ _ _ _ us hl => match us, hl with | [_, _, _], _ => rfl
  have F15 := fun_mk (st := topS 18) l15 c15 k15
  have b15 := F15.binds (ps := ["pool", "n", "wide"]) fun _ _ _ _ _ _ us hl => match us, hl with | [_, _, _], _ => rfl
  have F16 := fun_mk (st := topS 19) l16 c16 k16
  have b16 := F16.binds (ps := ["pool", "n"]) fun _ _ _ _ _ _ us hl => match us, hl with | [_, _], _ => rfl
  have F17 := fun_mk (st := topS 11) l17 c17 k17
  have b17 := F17.binds (ps := ["first", "second", "row"]) fun _ _ _ _ _ _ us hl => match us, hl with | [_, _, _], _ => rfl
  have hc17 := tabD_code X (ht "has_row_form" (by simp)) (PySem.W.mg_of X G a17) l17 rfl
  have F18 := fun_mk (st := topS 10) l18 c18 k18
  have b18 := F18.binds (ps := ["first", "second", "row"]) fun _ _ _ _ _ _ us hl => match us, hl with | [_, _, _], _ => rfl
  have F19 := fun_mk (st := topS 25) l19 c19 k19
  have b19 := F19.binds (ps := ["first", "second", "row", "named"]) fun _ _ _ _ _ _ us hl => match us, hl with | [_, _, _, _], _ => rfl
  have F20 := fun_mk (st := topS 29) l20 c20 k20
  have b20 := F20.binds (ps := ["pool", "first", "second", "rows"]) fun _ _ _ _ _ _ us hl => match us, hl with | [_, _, _, _], _ => rfl
  have F21 := fun_mk (st := topS 30) l21 c21 k21
  have b21 := F21.binds (ps := ["pool", "first", "second", "rows"]) fun _ _ _ _ _ _ us hl => match us, hl with | [_, _, _, _], _ => rfl
  have F22 := fun_mk (st := topS 31) l22 c22 k22
  have b22 := F22.binds (ps := ["pool"]) fun _ _ _ _ _ _ us hl => match us, hl with | [_], _ => rfl
  have F23 := fun_mk (st := topS 32) l23 c23 k23
  have b23 := F23.binds (ps := ["script"]) fun _ _ _ _ _ _ us hl => match us, hl with | [_], _ => rfl
  refine ⟨PySem.W.fnOf "law" "law" (defArgs (topS 32)) (defBody (topS 32)) (defScope (topS 32)) .none kV23 dc23 pm23 an23 cd23 ct23, (["has_row_form"] : List Str).map tb, spLawG K, fun p hp => ?_, fun p hp => ?_, fun p hp => ?_, fun s v => .of_eq rfl, fun H a ns hl _ hT hS => ⟨a, ns, rfl, hS, hl, fun P hP => ?_, fun _ => rfl⟩, fun base _ _ hTB => ?_⟩
  · obtain ⟨nm, hn, rfl⟩ := List.mem_map.mp hp
    obtain ⟨_, _, _, _, _, _, _, _, h6⟩ := ht nm hn
    exact h6
  · obtain ⟨nm, hn, rfl⟩ := List.mem_map.mp hp
    obtain ⟨_, _, _, _, _, _, _, _, h6⟩ := ht nm hn
    exact notab X nt h6
  · obtain ⟨nm, hn, rfl⟩ := List.mem_map.mp hp
    obtain ⟨_, _, _, _, _, _, _, h5, _⟩ := ht nm hn
    exact h5
  · obtain ⟨nm, hn, rfl⟩ := List.mem_map.mp hP
    exact hT (tb nm) (List.mem_map.mpr ⟨nm, hn, rfl⟩)
  have TB : ∀ nm ∈ (["has_row_form"] : List Str), GxR.TabB base mg (tb nm).1 (tb nm).2 := fun nm hn => let t := hTB (tb nm) (List.mem_map.mpr ⟨nm, hn, rfl⟩); ⟨t.code, t.bm, t.gP⟩
  have TP : ∀ nm ∈ (["has_row_form"] : List Str), (tb nm).2 ∈ Tabs.ad := fun nm hn => List.mem_map.mpr ⟨nm, hn, rfl⟩
  let cs : Cs := ⟨C_BadMap, C_BadOrder, C_RingFound, C_StrikeError, C_TooLarge⟩
  have gC_BadMap := PySem.W.mg_of X G Xa_BadMap
  have E_BadMap : ExcC K C_BadMap := ⟨Xga_BadMap, Xgg_BadMap, Xe_BadMap, Xh_BadMap, Xcl_BadMap, Xsp, Xtk, Xm_BadMap⟩
  have O_BadMap : OexC K C_BadMap := ⟨⟨nm_BadMap, q_BadMap, N_BadMap, bs_BadMap, _, sn_BadMap, sub_BadMap, ab_BadMap, col_BadMap, dd_BadMap, m0_BadMap, m1_BadMap, m2_BadMap, m3_BadMap, m5_BadMap, XL_BadMap, rfl⟩, Xsa_BadMap, Xe_BadMap, Xt_BadMap, XK_BadMap⟩
  have FI_BadMap := fun_mk (st := (inClass 0 (topS 4))) Xl_BadMap Xc_BadMap Xk_BadMap
  have bI_BadMap := FI_BadMap.binds (ps := ["self", "pair"]) fun _ _ _ _ _ _ us hl => match us, hl with | [_, _], _ => rfl
  have XC : Xc PySem.Challenge.pw_strikecore_k09_least_wrong_pair w K mg base cs := {
    g_BadMap := PySem.W.mg_of X G Xa_BadMap
    g_BadOrder := PySem.W.mg_of X G Xa_BadOrder
    g_RingFound := PySem.W.mg_of X G Xa_RingFound
    g_StrikeError := PySem.W.mg_of X G Xa_StrikeError
    g_TooLarge := PySem.W.mg_of X G Xa_TooLarge
    n_ValueError := PySem.W.mg_none_of X G Xn_ValueError
    m_BadMap := ⟨C_BadMap, I_BadMap, _, gC_BadMap, O_BadMap, Xno_BadMap, XI_BadMap, XT_BadMap, bI_BadMap, init_okX (st := (inClass 0 (topS 4))) O_BadMap Xno_BadMap FI_BadMap ⟨rfl, rfl, rfl, by decide +kernel, rfl, by decide +kernel, by decide +kernel⟩ rfl (fun _ _ _ _ _ _ => pss_one (ps_ost (pv 0) (pv 1)))⟩
    x_StrikeError := fun nm b h Ca hm => by
      obtain ⟨e1, e2⟩ := one_of h
      subst e1 e2
      rw [gC_BadMap] at hm
      cases hm
      exact PySem.W.exm_ref Xe_StrikeError Xh_StrikeError Xt_StrikeError Xu_BadMap_StrikeError
    f_pair := fun nm hn => by
      rw [List.mem_singleton.mp hn]
      exact ⟨C_BadMap, gC_BadMap, ⟨Xga_BadMap, Xgg_BadMap, Xe_BadMap, Xh_BadMap⟩, Xno_BadMap⟩
    i_0 := fun nm b h => by
      obtain ⟨e1, e2⟩ := one_of h
      subst e1 e2
      exact ⟨C_BadMap, gC_BadMap, E_BadMap, (kitAny_t (kit_own Xu_BadMap_BadMap Xu_BadMap_BadMap Xs_BadMap Xt_BadMap))⟩
    i_1 := fun nm b h => by
      obtain ⟨e1, e2⟩ := one_of h
      subst e1 e2
      exact ⟨C_BadMap, gC_BadMap, E_BadMap, (kitAny_t (kit_blt Xv_BadMap_ValueError (by decide +kernel)))⟩
    i_2 := fun nm b h => by
      obtain ⟨e1, e2⟩ := one_of h
      subst e1 e2
      exact ⟨C_BadMap, gC_BadMap, E_BadMap, (kitAny_f (kit_own Xu_BadMap_BadOrder Xu_BadMap_BadMap Xs_BadOrder Xt_BadOrder) (kitAny_f (kit_own Xu_BadMap_RingFound Xu_BadMap_BadMap Xs_RingFound Xt_RingFound) (kitAny_f (kit_own Xu_BadMap_TooLarge Xu_BadMap_BadMap Xs_TooLarge Xt_TooLarge) kitAny_n)))⟩
  }
  have Z__law_same := fz__law_same (P := PySem.Challenge.pw_strikecore_k09_least_wrong_pair) (w := w) (base := base) B GC  (PySem.W.mg_of X G a0) F0 b0 8
  have Z_masks_above := fz_masks_above (P := PySem.Challenge.pw_strikecore_k09_least_wrong_pair) (w := w) (base := base) B GC  (PySem.W.mg_of X G a1) F1 b1
  have Z_with_selves := fz_with_selves (P := PySem.Challenge.pw_strikecore_k09_least_wrong_pair) (w := w) (base := base) B GC  (PySem.W.mg_of X G a2) F2 b2
  have Z_falling_pair := fz_falling_pair (P := PySem.Challenge.pw_strikecore_k09_least_wrong_pair) (w := w) (base := base) B GC  (PySem.W.mg_of X G a3) F3 b3
  have Z__law_mixed := fz__law_mixed (P := PySem.Challenge.pw_strikecore_k09_least_wrong_pair) (w := w) (base := base) B GC  (PySem.W.mg_of X G a4) F4 b4
  have Z__law_pool := fz__law_pool (P := PySem.Challenge.pw_strikecore_k09_least_wrong_pair) (w := w) (base := base) B GC  (PySem.W.mg_of X G a5) F5 b5
  have Z__law_space := fz__law_space (P := PySem.Challenge.pw_strikecore_k09_least_wrong_pair) (w := w) (base := base) B GC  (PySem.W.mg_of X G a6) F6 b6
  have Z__law_leq := fz__law_leq (P := PySem.Challenge.pw_strikecore_k09_least_wrong_pair) (w := w) (base := base) B GC  (PySem.W.mg_of X G a7) F7 b7
  have Z__law_take := fz__law_take (P := PySem.Challenge.pw_strikecore_k09_least_wrong_pair) (w := w) (base := base) B GC Z__law_mixed (PySem.W.mg_of X G a8) F8 b8
  have Z__law_bounds := fz__law_bounds (P := PySem.Challenge.pw_strikecore_k09_least_wrong_pair) (w := w) (base := base) B GC Z__law_leq (PySem.W.mg_of X G a9) F9 b9
  have Z__law_due := fz__law_due (P := PySem.Challenge.pw_strikecore_k09_least_wrong_pair) (w := w) (base := base) B GC Z__law_leq (PySem.W.mg_of X G a10) F10 b10
  have Z__law_names := fz__law_names (P := PySem.Challenge.pw_strikecore_k09_least_wrong_pair) (w := w) (base := base) B GC Z__law_take (PySem.W.mg_of X G a11) F11 b11
  have Z__law_map := fz__law_map (P := PySem.Challenge.pw_strikecore_k09_least_wrong_pair) (w := w) (base := base) B GC Z__law_bounds Z__law_take (PySem.W.mg_of X G a12) F12 b12
  have Z__law_changed := fz__law_changed (P := PySem.Challenge.pw_strikecore_k09_least_wrong_pair) (w := w) (base := base) B GC Z__law_take (PySem.W.mg_of X G a13) F13 b13
  have Z__law_forms := fz__law_forms (P := PySem.Challenge.pw_strikecore_k09_least_wrong_pair) (w := w) (base := base) B GC Z__law_take (PySem.W.mg_of X G a14) F14 b14
  have Z__law_floors := fz__law_floors (P := PySem.Challenge.pw_strikecore_k09_least_wrong_pair) (w := w) (base := base) B GC Z__law_space Z__law_names (PySem.W.mg_of X G a15) F15 b15
  have Z__law_drawn := fz__law_drawn (P := PySem.Challenge.pw_strikecore_k09_least_wrong_pair) (w := w) (base := base) B GC Z__law_take Z__law_floors Z__law_space Z__law_names (PySem.W.mg_of X G a16) F16 b16
  have Z_has_row_form := fz_has_row_form (P := PySem.Challenge.pw_strikecore_k09_least_wrong_pair) (w := w) (base := base) B GC (TB "has_row_form" (by simp)) (TP "has_row_form" (by simp)) hc17  (PySem.W.mg_of X G a17) F17 b17
  have Z_check_map := fz_check_map (P := PySem.Challenge.pw_strikecore_k09_least_wrong_pair) (w := w) (base := base) B GC XC Z_has_row_form Z_falling_pair Z_with_selves Z_masks_above (PySem.W.mg_of X G a18) F18 b18
  have Z__law_asked := fz__law_asked (P := PySem.Challenge.pw_strikecore_k09_least_wrong_pair) (w := w) (base := base) B GC XC Z_check_map (PySem.W.mg_of X G a19) F19 b19
  have Z__law_rows_right := fz__law_rows_right (P := PySem.Challenge.pw_strikecore_k09_least_wrong_pair) (w := w) (base := base) B GC Z__law_due Z__law_same Z__law_asked (PySem.W.mg_of X G a20) F20 b20
  have Z__law_forms_right := fz__law_forms_right (P := PySem.Challenge.pw_strikecore_k09_least_wrong_pair) (w := w) (base := base) B GC Z__law_forms Z__law_same Z__law_asked Z__law_take (PySem.W.mg_of X G a21) F21 b21
  have Z__law_great_right := fz__law_great_right (P := PySem.Challenge.pw_strikecore_k09_least_wrong_pair) (w := w) (base := base) B GC Z__law_take Z__law_floors Z__law_changed Z__law_rows_right Z__law_forms_right (PySem.W.mg_of X G a22) F22 b22
  have Z_law := fz_law (P := PySem.Challenge.pw_strikecore_k09_least_wrong_pair) (w := w) (base := base) B GC Z__law_pool Z__law_take Z__law_great_right Z__law_drawn Z__law_forms_right Z__law_map Z__law_changed Z__law_rows_right (PySem.W.mg_of X G a23) F23 b23
  obtain ⟨f', fd', g1, g2, g3, g4⟩ := Z_law.ex
  have e := g1.symm.trans (PySem.W.mg_of X G a23)
  cases e
  obtain ⟨⟨oc, od, kV, doc, pm, an, cdv, ct, osl, e1, l, c⟩, k⟩ := g2
  have e2 := l.symm.trans l23
  rw [e1] at e2
  cases e2
  rw [e1] at g4
  exact g4.imp fun vs H Q E h => sp_lawG (fun ns hl => eval_law hl) h
end K09
open PySem PySem.W
open PyProof.Rows
set_option maxHeartbeats 0 in
theorem PySem.Challenge.cw_strikecore_k09_least_wrong_pair_holds : PySem.Challenge.rw_strikecore_k09_least_wrong_pair.Holds := by
  w_on; o_law
  k_head; (case hw => w_witness2)
  k_fill
  refine Z.walk_ofG (l := PySem.Challenge.rw_strikecore_k09_least_wrong_pair) (n := 63) (k := 13) (x := "script") (CX := fun w => L2.CX PySem.Challenge.pw_strikecore_k09_least_wrong_pair w) (["has_row_form"] : List Str) rfl (by decide) rfl ⟨rfl, by decide, by decide⟩ (by decide +kernel) (fun w h Y => PySem.W.kIn_of Y) ?F (fun _ _ _ _ _ h => by obtain ⟨_, _, _, _, _, _, _, _, _, _, _, _, h⟩ := h; exact h)
  case F =>
    intro w mg fa h _ KX G hmg own
    refine' K09.all_mk KX G hmg own ?a0 ?l0 ?c0 ?k0 ?a1 ?l1 ?c1 ?k1 ?a2 ?l2 ?c2 ?k2 ?a3 ?l3 ?c3 ?k3 ?a4 ?l4 ?c4 ?k4 ?a5 ?l5 ?c5 ?k5 ?a6 ?l6 ?c6 ?k6 ?a7 ?l7 ?c7 ?k7 ?a8 ?l8 ?c8 ?k8 ?a9 ?l9 ?c9 ?k9 ?a10 ?l10 ?c10 ?k10 ?a11 ?l11 ?c11 ?k11 ?a12 ?l12 ?c12 ?k12 ?a13 ?l13 ?c13 ?k13 ?a14 ?l14 ?c14 ?k14 ?a15 ?l15 ?c15 ?k15 ?a16 ?l16 ?c16 ?k16 ?a17 ?l17 ?c17 ?k17 ?a18 ?l18 ?c18 ?k18 ?a19 ?l19 ?c19 ?k19 ?a20 ?l20 ?c20 ?k20 ?a21 ?l21 ?c21 ?k21 ?a22 ?l22 ?c22 ?k22 ?a23 ?l23 ?c23 ?k23 ?Xa_BadMap ?Xt_BadMap ?Xs_BadMap ?Xh_BadMap ?Xe_BadMap ?Xa_BadOrder ?Xt_BadOrder ?Xs_BadOrder ?Xh_BadOrder ?Xe_BadOrder ?Xa_RingFound ?Xt_RingFound ?Xs_RingFound ?Xh_RingFound ?Xe_RingFound ?Xa_StrikeError ?Xt_StrikeError ?Xs_StrikeError ?Xh_StrikeError ?Xe_StrikeError ?Xa_TooLarge ?Xt_TooLarge ?Xs_TooLarge ?Xh_TooLarge ?Xe_TooLarge ?Xn_ValueError ?Xsp ?Xtk ?XL_BadMap ?Xsa_BadMap ?Xga_BadMap ?Xgg_BadMap ?Xcl_BadMap ?Xno_BadMap ?XI_BadMap ?XT_BadMap ?Xl_BadMap ?Xc_BadMap ?Xk_BadMap ?XK_BadMap ?Xm_BadMap ?Xu_BadMap_BadMap ?Xu_BadMap_BadOrder ?Xu_BadMap_RingFound ?Xu_BadMap_StrikeError ?Xu_BadMap_TooLarge ?Xv_BadMap_ValueError ?nt ?z_len ?z_range ?z_enumerate ?z_abs ?z_int ?z_bool ?z_tuple ?z_list ?z_str ?z_dict ?z_isinstance ?z_sorted ?z_min ?z_max ?z_reversed ?z_any ?z_all ?z_sum ?z_zip
    (case a0 => k_is); (case l0 => k_is); (case c0 => k_is); (case k0 => k_is); (case a1 => k_is); (case l1 => k_is); (case c1 => k_is); (case k1 => k_is); (case a2 => k_is); (case l2 => k_is); (case c2 => k_is); (case k2 => k_is); (case a3 => k_is); (case l3 => k_is); (case c3 => k_is); (case k3 => k_is); (case a4 => k_is); (case l4 => k_is); (case c4 => k_is); (case k4 => k_is); (case a5 => k_is); (case l5 => k_is); (case c5 => k_is); (case k5 => k_is); (case a6 => k_is); (case l6 => k_is); (case c6 => k_is); (case k6 => k_is); (case a7 => k_is); (case l7 => k_is); (case c7 => k_is); (case k7 => k_is); (case a8 => k_is); (case l8 => k_is); (case c8 => k_is); (case k8 => k_is); (case a9 => k_is); (case l9 => k_is); (case c9 => k_is); (case k9 => k_is); (case a10 => k_is); (case l10 => k_is); (case c10 => k_is); (case k10 => k_is); (case a11 => k_is); (case l11 => k_is); (case c11 => k_is); (case k11 => k_is); (case a12 => k_is); (case l12 => k_is); (case c12 => k_is); (case k12 => k_is); (case a13 => k_is); (case l13 => k_is); (case c13 => k_is); (case k13 => k_is); (case a14 => k_is); (case l14 => k_is); (case c14 => k_is); (case k14 => k_is); (case a15 => k_is); (case l15 => k_is); (case c15 => k_is); (case k15 => k_is); (case a16 => k_is); (case l16 => k_is); (case c16 => k_is); (case k16 => k_is); (case a17 => k_is); (case l17 => k_is); (case c17 => k_is); (case k17 => k_is); (case a18 => k_is); (case l18 => k_is); (case c18 => k_is); (case k18 => k_is); (case a19 => k_is); (case l19 => k_is); (case c19 => k_is); (case k19 => k_is); (case a20 => k_is); (case l20 => k_is); (case c20 => k_is); (case k20 => k_is); (case a21 => k_is); (case l21 => k_is); (case c21 => k_is); (case k21 => k_is); (case a22 => k_is); (case l22 => k_is); (case c22 => k_is); (case k22 => k_is); (case a23 => k_is); (case l23 => k_is); (case c23 => k_is); (case k23 => k_is); (case Xa_BadMap => k_is); (case Xt_BadMap => k_is); (case Xs_BadMap => k_is); (case Xh_BadMap => k_is); (case Xe_BadMap => k_is); (case Xa_BadOrder => k_is); (case Xt_BadOrder => k_is); (case Xs_BadOrder => k_is); (case Xh_BadOrder => k_is); (case Xe_BadOrder => k_is); (case Xa_RingFound => k_is); (case Xt_RingFound => k_is); (case Xs_RingFound => k_is); (case Xh_RingFound => k_is); (case Xe_RingFound => k_is); (case Xa_StrikeError => k_is); (case Xt_StrikeError => k_is); (case Xs_StrikeError => k_is); (case Xh_StrikeError => k_is); (case Xe_StrikeError => k_is); (case Xa_TooLarge => k_is); (case Xt_TooLarge => k_is); (case Xs_TooLarge => k_is); (case Xh_TooLarge => k_is); (case Xe_TooLarge => k_is); (case Xn_ValueError => k_is); (case Xsp => k_is); (case Xtk => k_is); (case XL_BadMap => k_is); (case Xsa_BadMap => k_is); (case Xga_BadMap => k_is); (case Xgg_BadMap => k_is); (case Xcl_BadMap => k_is); (case Xno_BadMap => k_is); (case XI_BadMap => k_is); (case XT_BadMap => k_is); (case Xl_BadMap => k_is); (case Xc_BadMap => k_is); (case Xk_BadMap => k_is); (case XK_BadMap => k_is); (case Xm_BadMap => k_is); (case Xu_BadMap_BadMap => k_is); (case Xu_BadMap_BadOrder => k_is); (case Xu_BadMap_RingFound => k_is); (case Xu_BadMap_StrikeError => k_is); (case Xu_BadMap_TooLarge => k_is); (case Xv_BadMap_ValueError => k_is); (case nt => kernel_rfl); (case z_len => k_is); (case z_range => k_is); (case z_enumerate => k_is); (case z_abs => k_is); (case z_int => k_is); (case z_bool => k_is); (case z_tuple => k_is); (case z_list => k_is); (case z_str => k_is); (case z_dict => k_is); (case z_isinstance => k_is); (case z_sorted => k_is); (case z_min => k_is); (case z_max => k_is); (case z_reversed => k_is); (case z_any => k_is); (case z_all => k_is); (case z_sum => k_is); (case z_zip => k_is)
