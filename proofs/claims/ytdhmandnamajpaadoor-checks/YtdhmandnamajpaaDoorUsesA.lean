/-
  Plain mathematics: which sections are used, found one behind the other.
-/
import Derived.Test.YtdhmandnamajpaaDoorCSpec
namespace Go.Proofs.YtdhmandnamajpaaDoor
open Go.RowKit

def Rch (nms : List (List Nat)) (k : Nat) : Prop := ∀ P : Nat → Prop, P 0 → (∀ i j, P i → j ∈ nms.getD i [] → P j) → P k
theorem Rch.zero (nms : List (List Nat)) : Rch nms 0 := fun _ h0 _ => h0
theorem Rch.name {nms : List (List Nat)} {i k : Nat} (h : Rch nms i) (hk : k ∈ nms.getD i []) : Rch nms k := fun P h0 h1 => h1 i k (h P h0 h1) hk
def nmsS (S : List Sec) : List (List Nat) := S.map (fun s => namedL (codeI s.code))
theorem nmsS_get (S : List Sec) (i : Nat) : (nmsS S).getD i [] = namedS S i := by
  simp only [nmsS, namedS, List.getD, List.getElem?_map]
theorem used_iff (S : List Sec) (k : Nat) : Used S k ↔ Rch (nmsS S) k := by
  constructor
  · intro h P h0 h1
    exact h P h0 (fun i j hi hj => h1 i j hi (by rw [nmsS_get]; exact hj))
  · intro h P h0 h1
    exact h P h0 (fun i j hi hj => h1 i j hi (by rw [nmsS_get] at hj; exact hj))

theorem count_set : ∀ (us : List Bool) (t : Nat), us[t]? = some false → (us.set t true).count true = us.count true + 1 := by
  intro us
  induction us with
  | nil => intro t h; simp at h
  | cons u us ih =>
    intro t h
    cases t with
    | zero => simp at h; subst h; simp
    | succ t => simp at h; simp only [List.set_cons_succ, List.count_cons]; rw [ih t h]; omega

/-- Found so far: fs; marked: us. -/
structure Bfs (nms : List (List Nat)) (n : Nat) (us : List Bool) (fs : List Nat) : Prop where
  len : us.length = n
  cnt : fs.length = us.count true
  mem : ∀ k, us.getD k false = true ↔ k ∈ fs
  rch : ∀ k, k ∈ fs → Rch nms k
  zero : 0 ∈ fs
theorem Bfs.le {nms : List (List Nat)} {n : Nat} {us : List Bool} {fs : List Nat} (h : Bfs nms n us fs) : fs.length ≤ n := by
  rw [h.cnt, ← h.len]; exact List.count_le_length
theorem Bfs.lt {nms : List (List Nat)} {n : Nat} {us : List Bool} {fs : List Nat} (h : Bfs nms n us fs) {k : Nat} (hk : k ∈ fs) : k < n := by
  have := (h.mem k).2 hk
  rw [← h.len]
  rcases Nat.lt_or_ge k us.length with hlt | hge
  · exact hlt
  · simp [List.getD, List.getElem?_eq_none hge] at this
theorem Bfs.add {nms : List (List Nat)} {n : Nat} {us : List Bool} {fs : List Nat} (h : Bfs nms n us fs) {t : Nat} (ht : t < n) (hf : us.getD t false = false) (hr : Rch nms t) : Bfs nms n (us.set t true) (fs ++ [t]) where
  len := by simp [h.len]
  cnt := by
    have hlt : t < us.length := by rw [h.len]; exact ht
    have : us[t]? = some false := by
      rw [List.getElem?_eq_getElem hlt]
      simp [List.getD, hlt] at hf
      rw [hf]
    rw [count_set us t this, List.length_append, h.cnt]; rfl
  mem := fun k => by
    have hlt : t < us.length := by rw [h.len]; exact ht
    by_cases e : t = k
    · subst e
      simp [List.getD, hlt]
    · have := h.mem k
      simp only [List.getD] at this ⊢
      rw [List.getElem?_set_ne e, this]
      simp
      intro e'
      exact absurd e'.symm e
  rch := fun k hk => by
    rcases List.mem_append.1 hk with h1 | h1
    · exact h.rch k h1
    · simp at h1; subst h1; exact hr
  zero := List.mem_append.2 (.inl h.zero)
theorem bfs_start (nms : List (List Nat)) (n : Nat) (hn : 0 < n) : Bfs nms n ((List.replicate n false).set 0 true) [0] where
  len := by simp
  cnt := by
    rw [count_set]
    · simp [List.count_replicate]
    · simp [hn]
  mem := fun k => by
    by_cases e : k = 0
    · subst e; simp [List.getD, hn]
    · simp only [List.getD]
      rw [List.getElem?_set_ne (fun h => e h.symm), List.getElem?_replicate]
      simp [e]
      split <;> rfl
  rch := fun k hk => by simp at hk; subst hk; exact Rch.zero _
  zero := by simp
/-- Those ahead of number i lead to nothing that is not found. -/
def Led (nms : List (List Nat)) (fs : List Nat) (i : Nat) : Prop := ∀ j k t, j < i → fs[j]? = some k → t ∈ nms.getD k [] → t ∈ fs
theorem Led.add {nms : List (List Nat)} {fs : List Nat} {i : Nat} (h : Led nms fs i) (hi : i ≤ fs.length) (t : Nat) : Led nms (fs ++ [t]) i := by
  intro j k u hj hk hu
  rw [List.getElem?_append_left (by omega)] at hk
  exact List.mem_append.2 (.inl (h j k u hj hk hu))
theorem bfs_done {nms : List (List Nat)} {n : Nat} {us : List Bool} {fs : List Nat} (h : Bfs nms n us fs) (hl : Led nms fs fs.length) (k : Nat) : us.getD k false = true ↔ Rch nms k := by
  rw [h.mem]
  refine ⟨h.rch k, fun hr => hr (fun k => k ∈ fs) h.zero ?_⟩
  intro i j hi hj
  obtain ⟨p, hp, rfl⟩ := List.getElem_of_mem hi
  exact hl p _ j hp (by simp [hp]) hj
end Go.Proofs.YtdhmandnamajpaaDoor
