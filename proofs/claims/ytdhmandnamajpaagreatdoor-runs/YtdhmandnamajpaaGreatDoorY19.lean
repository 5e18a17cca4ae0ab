import Derived.Test.YtdhmandnamajpaaGreatDoorY00
import Derived.Test.YtdhmandnamajpaaGreatDoorY18
import Derived.Test.YtdhmandnamajpaaGreatDoorY01
namespace Go.Proofs.YtdhmandnamajpaaGreatDoor
open Go.RowKit Go.Joins
set_option maxHeartbeats 4000000
set_option maxRecDepth 100000
theorem first_zero {E : Nat → Nat} {l : List Ins} : ∀ {n : Nat}, (∀ k, k < n → E k = 0) → firstE E l n = (0, 0) := by
 intro n
 induction n with
 | zero => intro _; rfl
 | succ n ih =>
  intro h
  simp only [firstE]
  rw [ih (fun k hk => h k (by omega)), h n (by omega)]
  rfl
theorem first_at {E : Nat → Nat} {l : List Ins} {k n : Nat} (h : ∀ j, j < k → E j = 0) (hk : k < n) (he : E k ≠ 0) : firstE E l n = (E k, (l.getD k ins0).pl) := by
 induction n with
 | zero => omega
 | succ n ih =>
  simp only [firstE]
  by_cases e : k = n
  ·subst e
   rw [first_zero h]
   simp [he]
  ·rw [ih (by omega)]
   simp [he]
theorem whole_split {S : List Sec} {s : Sec} (h : (splitE s.code).1 ≠ 0) : wholeE S s = splitE s.code := by unfold wholeE; rw [if_pos h]
theorem whole_ref {S : List Sec} {s : Sec} {k : Nat} {x : Ins} (h0 : (splitE s.code).1 = 0) (hk : (codeI s.code)[k]? = some x) (h : ∀ (j : Nat) (y : Ins), j < k → (codeI s.code)[j]? = some y → refE S (codeI s.code) y = 0) (he : refE S (codeI s.code) x ≠ 0) : wholeE S s = (refE S (codeI s.code) x, x.pl) := by
 have hkl : k < (codeI s.code).length := (List.getElem?_eq_some_iff.1 hk).1
 have hg : (codeI s.code).getD k ins0 = x := by simp [List.getD, hk]
 have hf := first_at (E := fun k => refE S (codeI s.code) ((codeI s.code).getD k ins0)) (l := codeI s.code) (k := k) (n := (codeI s.code).length) (fun j hj => h j _ hj (by simp [List.getD, show j < (codeI s.code).length by omega])) hkl (by rw [hg]; exact he)
 unfold wholeE
 rw [if_neg (by rw [h0]; simp), hf, hg, if_pos he]
theorem whole_flow {S : List Sec} {s : Sec} {k : Nat} {x : Ins} (h0 : (splitE s.code).1 = 0) (hr : ∀ (j : Nat) (y : Ins), (codeI s.code)[j]? = some y → refE S (codeI s.code) y = 0) (hk : (codeI s.code)[k]? = some x) (h : ∀ j, j < k → flowE S s (codeI s.code) j = 0) (he : flowE S s (codeI s.code) k ≠ 0) : wholeE S s = (flowE S s (codeI s.code) k, x.pl) := by
 have hkl : k < (codeI s.code).length := (List.getElem?_eq_some_iff.1 hk).1
 have hg : (codeI s.code).getD k ins0 = x := by simp [List.getD, hk]
 have hz := first_zero (E := fun k => refE S (codeI s.code) ((codeI s.code).getD k ins0)) (l := codeI s.code) (n := (codeI s.code).length) (fun j hj => hr j _ (by simp [List.getD, hj]))
 have hf := first_at (E := flowE S s (codeI s.code)) (l := codeI s.code) (k := k) (n := (codeI s.code).length) h hkl he
 unfold wholeE
 rw [if_neg (by rw [h0]; simp), hz, if_neg (by simp), hf, hg, if_pos he]
theorem whole_sums {S : List Sec} {s : Sec} (h0 : (splitE s.code).1 = 0) (hr : ∀ (j : Nat) (y : Ins), (codeI s.code)[j]? = some y → refE S (codeI s.code) y = 0) (h : ∀ j, j < (codeI s.code).length → flowE S s (codeI s.code) j = 0) : wholeE S s = (sumsE S s (codeI s.code), 0) := by
 have hz := first_zero (E := fun k => refE S (codeI s.code) ((codeI s.code).getD k ins0)) (l := codeI s.code) (n := (codeI s.code).length) (fun j hj => hr j _ (by simp [List.getD, hj]))
 have hf := first_zero (E := flowE S s (codeI s.code)) (l := codeI s.code) (n := (codeI s.code).length) h
 unfold wholeE
 rw [if_neg (by rw [h0]; simp), hz, if_neg (by simp), hf, if_neg (by simp)]
theorem nneg_hsAt {S : List Sec} {s : Sec} {l : List Ins} (hS : S.all secB = true) (hs : secB s = true) (hx : ∀ x ∈ l, (x.op = 2 ∨ x.n < 256) ∧ (namesB x = true → x.n < S.length)) (k : Nat) (hk : k ≤ l.length) (hf : ∀ j, j < k → flowE S s l j = 0) : NNeg (hsAt S s l k) := by
 induction k with
 | zero =>
  intro j o ho
  obtain ⟨d1, _⟩ := (secB_iff _).1 hs
  simp only [hsAt] at ho
  rcases getD_set _ _ _ _ _ ho with h | h | h
  ·injection h with h; subst h; simp only; omega
  ·simp only [List.getD, List.getElem?_replicate] at h
   split at h <;> simp at h
  ·cases h
 | succ k ih =>
  have ih' := ih (by omega) (fun j hj => hf j (by omega))
  have hk0 := hf k (by omega)
  simp only [hsAt]
  cases h : passH S s l k (l.getD k ins0) (hsAt S s l k) with
  | none => exact ih'
  | some hs' =>
   show NNeg hs'
   have hm : l.getD k ins0 ∈ l := by
    have : l.getD k ins0 = l[k]'(by omega) := by simp [List.getD, show k < l.length by omega]
    rw [this]
    exact List.getElem_mem _
   obtain ⟨b1, b2⟩ := hx _ hm
   obtain ⟨r1, r2⟩ := brings_le hS b1 b2
   unfold flowE passE at hk0
   split at hk0
   ·rename_i h1; exact absurd hk0 h1
   ·rename_i h1
    have h1' := Decidable.not_not.1 h1
    unfold passH at h
    cases ho : (hsAt S s l k).getD k none with
    | none => rw [ho] at h1'; simp [aheadE] at h1'
    | some o =>
     rw [ho] at h1' h
     simp only [aheadE] at h1'
     split at h1'
     ·cases h1'
     ·rename_i h2
      have hg : 0 ≤ (afterI S s (l.getD k ins0) ((some o : Option (Int × Int)).getD (0, 0))).1 := by simp only [afterI, Option.getD_some]; omega
      generalize afterI S s (l.getD k ins0) ((some o : Option (Int × Int)).getD (0, 0)) = g at *
      clear h1' h1 hk0 ho
      generalize nextsI l k (l.getD k ins0) = js at h
      revert ih' h
      generalize hsAt S s l k = hs0
      intro ih' h
      induction js generalizing hs0 with
      | nil => simp only [givesH] at h; injection h with h; subst h; exact ih'
      | cons j js ihj =>
       simp only [givesH] at h
       cases hg1 : giveH k g hs0 j with
       | none => rw [hg1] at h; cases h
       | some h2' => rw [hg1] at h; exact ihj h2' (ih'.give hg hg1) h
theorem make_ints (n : Nat) (hn : n ≤ 200) (W : World) : (Instr.makeSlice 22 (.int .i64 (n : Int)) (.int .i64 (n : Int))).run Tryz.prog W = .ok (.slice (some ⟨W.heap.size, 0, none⟩) n n) (W.alloc (.cells (Array.replicate n (.int .i64 0)) 3)) := by
 obtain ⟨i0, hi, hz0, hz1, hz2⟩ := info_parts Tryz.infoInt
 have h := run_make (P := Tryz.prog) W 22 3 i0 (.int .i64 0) Tryz.underlying22 hi hz0 .i64 .i64 (n : Int) (n : Int) (by omega) (by omega) (by rw [hz2]; omega) (by omega)
 have e : madeCells (Value.int .i64 0).cells (((n : Nat) : Int).toNat * i0.size) = Array.replicate n (.int .i64 0) := by
  rw [hz1, show ((n : Nat) : Int).toNat * 1 = n by simp]
  unfold madeCells
  apply Array.ext
  ·simp
  ·intro i h1 h2
   have hq : (Value.int .i64 0).cells[i % 1]! = Value.int .i64 0 := by rw [Nat.mod_one]; rfl
   simp
   exact hq
 rw [e] at h
 simpa using h
def halfV (n k : Nat) : Array Value := ((List.replicate k (Value.int .i64 (-1))) ++ List.replicate (n - k) (Value.int .i64 0)).toArray
theorem halfV_zero (n : Nat) : halfV n 0 = Array.replicate n (.int .i64 0) := by simp [halfV]
theorem halfV_set (n k : Nat) (hk : k < n) : (halfV n k).setIfInBounds k (.int .i64 (-1)) = halfV n (k + 1) := by
 unfold halfV
 rw [show n - k = (n - (k + 1)) + 1 by omega, List.replicate_succ, List.setIfInBounds_toArray]
 congr 1
 rw [List.set_append_right _ _ (by simp)]
 simp [List.replicate_succ']
theorem halfV_some (n k : Nat) (hk : k < n) : ∃ v, (halfV n k)[k]? = some v := ⟨_, Array.getElem?_eq_getElem (by simp [halfV]; omega)⟩
theorem halfV_full (n : Nat) : halfV n n = loV (List.replicate n none) ∧ halfV n n = hiV (List.replicate n none) := by
 constructor <;> simp [halfV, loV, hiV, loN, hiN]
theorem great_next {S : List Sec} {s : Sec} {l : List Ins} {k : Nat} (hf : flowE S s l k = 0) : greatH (hsAt S s l (k + 1)) (k + 1) = (if greatH (hsAt S s l k) k < hiN ((hsAt S s l (k + 1)).getD k none) then hiN ((hsAt S s l (k + 1)).getD k none) else greatH (hsAt S s l k) k) := by
 have h1 : greatH (hsAt S s l (k + 1)) k = greatH (hsAt S s l k) k := greatH_stays S s l k (k + 1) (by omega)
 have h2 : (hsAt S s l (k + 1)).getD k none = (hsAt S s l k).getD k none := hsAt_stays S s l k (k + 1) (by omega)
 simp only [greatH]
 rw [h1, h2]
 cases ho : (hsAt S s l k).getD k none with
 | none =>
  exfalso
  unfold flowE passE at hf
  rw [ho] at hf
  simp [aheadE] at hf
 | some o =>
  simp only [hiN, Option.getD_some, Option.map_some]
  by_cases h : greatH (hsAt S s l k) k < o.2
  ·exact (show max (greatH (hsAt S s l k) k) o.2 = o.2 by omega).trans (if_pos h).symm
  ·exact (show max (greatH (hsAt S s l k) k) o.2 = greatH (hsAt S s l k) k by omega).trans (if_neg h).symm
theorem any_next {S : List Sec} {l : List Ins} {k : Nat} {x : Ins} (h : l[k]? = some x) : (l.take (k + 1)).any (returnsB S) = ((l.take k).any (returnsB S) || returnsB S x) := by
 have hk : k < l.length := (List.getElem?_eq_some_iff.1 h).1
 have hx : l[k] = x := by rw [List.getElem?_eq_getElem hk] at h; injection h
 rw [List.take_succ_eq_append_getElem hk, List.any_append, hx]
 simp
theorem hs_next {S : List Sec} {s : Sec} {l : List Ins} {k : Nat} {x : Ins} {hs' : List (Option (Int × Int))} (hx : l[k]? = some x) (h : passH S s l k x (hsAt S s l k) = some hs') : hsAt S s l (k + 1) = hs' := by
 have hg : l.getD k ins0 = x := by simp [List.getD, hx]
 simp only [hsAt]
 rw [hg, h]
 rfl
theorem flow_pass {S : List Sec} {s : Sec} {l : List Ins} {k : Nat} {x : Ins} (hx : l[k]? = some x) : flowE S s l k = passE S s l k x (hsAt S s l k) := by
 have hg : l.getD k ins0 = x := by simp [List.getD, hx]
 unfold flowE
 rw [hg]
theorem ref_names {S : List Sec} {l : List Ins} {x : Ins} (h : refE S l x = 0) : (namesB x = true → x.n < S.length) ∧ ∀ t ∈ x.to, beginsB l t = true := by
 unfold refE at h
 split at h
 ·cases h
 ·rename_i h1
  split at h
  ·cases h
  ·rename_i h2
   constructor
   ·intro hn
    rw [hn] at h2
    simp only [Bool.true_and, Bool.not_eq_true', Bool.not_eq_false] at h2
    unfold mayNameB at h2
    rw [Bool.and_eq_true, decide_eq_true_eq] at h2
    exact h2.1
   ·intro t ht
    cases hb : beginsB l t with
    | true => rfl
    | false =>
     exfalso
     apply h1
     rw [List.any_eq_true]
     exact ⟨t, ht, by rw [hb]; rfl⟩
theorem made3 (w : World) (o1 o2 o3 : Obj) : (((w.alloc o1).alloc o2).alloc o3).drew.heap[w.heap.size]? = some o1 ∧ (((w.alloc o1).alloc o2).alloc o3).drew.heap[w.heap.size + 1]? = some o2 ∧ (((w.alloc o1).alloc o2).alloc o3).drew.heap[w.heap.size + 2]? = some o3 ∧
  Below w.heap.size w (((w.alloc o1).alloc o2).alloc o3).drew ∧ (((w.alloc o1).alloc o2).alloc o3).drew.heap.size = w.heap.size + 3 := by
 refine ⟨?_, ?_, ?_, (b3 w o1 o2 o3).drew, by simp⟩
 ·exact (Below.heap_alloc _ _ _ (by simp; omega)).trans ((Below.heap_alloc _ _ _ (by simp)).trans (heap_alloc_new w _))
 ·have := heap_alloc_new (w.alloc o1) o2
  exact (Below.heap_alloc _ _ _ (by simp)).trans (by simpa using this)
 ·have h2 : w.heap.size + 2 = ((w.alloc o1).alloc o2).heap.size := by simp
  rw [h2]
  exact heap_alloc_new ((w.alloc o1).alloc o2) o3
theorem whole_le2 (S : List Sec) (s : Sec) (l : List Ins) (k : Nat) : flowE S s l k ≤ 20 := passE_le _ _ _ _ _ _
def NilOk (w : World) (B g : Nat) (l : List Ins) : Prop := ∀ k x ta tc, l[k]? = some x → w.cell? ⟨g, k * 5 + 3, none⟩ = some (.slice ta x.to.length tc) → x.to = [] → (ta = none ∧ tc = 0) ∨ ∃ q, ta = some ⟨q, 0, none⟩ ∧ q < B
theorem NilOk.below {w w' : World} {B g : Nat} {l : List Ins} (h : NilOk w B g l) (hg : g < B) (hb : Below B w w') : NilOk w' B g l := fun k x ta tc hk hc h0 => h k x ta tc hk (((bcell hb).1 _ _ hg).symm.trans hc) h0
theorem tosB_at0 {w : World} {B : Nat} {ta : Option Addr} {to : List Int} {tc : Nat} (h : TosB w B ta to) (hB : B ≤ w.heap.size) (hn : to = [] → (ta = none ∧ tc = 0) ∨ ∃ q, ta = some ⟨q, 0, none⟩ ∧ q < B) : TosAt0 w w.heap.size (.slice ta to.length tc) to := by
 rcases h with h | ⟨q, e, hq, hc⟩
 ·rcases hn h with ⟨rfl, rfl⟩ | ⟨q, rfl, hq⟩
  ·subst h
   exact .inl ⟨rfl, rfl⟩
  ·subst h
   exact .inr ⟨q, tc, rfl, by omega, by omega, fun j t hj => by simp at hj⟩
 ·subst e
  exact .inr ⟨q, tc, rfl, by omega, by omega, hc⟩
theorem AllMem.rins {w0 w : World} {pv : Value} {l : List Ins} {xs : List Value} (h : AllMem w0 w pv l xs) (hl : 0 < l.length) : ∃ g cap, pv = .slice (some ⟨g, 0, none⟩) l.length cap ∧ RIns w w.heap.size g l ∧ NilOk w w.heap.size g l := by
 rcases h.row.2 with ⟨_, e⟩ | ⟨g, cap, cur, hv', hb, hg, hc, _, hs, ht⟩
 ·omega
 ·refine ⟨g, cap, hv', ⟨blt hg, Nat.le_refl _, fun k x hk => ?_⟩, fun k x ta tc hk hcell h0 => ?_⟩
  case refine_2 =>
   obtain ⟨_, _, _, ⟨v, d, f⟩, _⟩ := h.flat k x hk
   have hlt : k < l.length := (List.getElem?_eq_some_iff.1 hk).1
   have hc2 : w.cell? ⟨g, k * 5 + 3, none⟩ = some v := by
    rw [cell_of_block hg]
    rw [← ht, List.getElem?_take_of_lt (by omega)] at d
    simpa using d
   rw [hcell] at hc2
   injection hc2 with hc2
   subst hc2
   rcases f.2 with ⟨e1, _⟩ | ⟨q, cap', cur', e1, hb', hg', _⟩
   ·injection e1 with e1 e2 e3
    exact .inl ⟨e1, e3⟩
   ·injection e1 with e1 e2 e3
    exact .inr ⟨q, e1, blt hg'⟩
  obtain ⟨a, b, ⟨N, c, c'⟩, ⟨v, d, f⟩, e⟩ := h.flat k x hk
  have hlt : k < l.length := (List.getElem?_eq_some_iff.1 hk).1
  have get : ∀ j u, j < l.length * 5 → xs[j]? = some u → w.cell? ⟨g, j, none⟩ = some u := fun j u hj hu => by
   rw [cell_of_block hg]
   rw [← ht, List.getElem?_take_of_lt hj] at hu
   simpa using hu
  obtain ⟨ta, tc, rfl⟩ := row_form f
  refine ⟨get _ _ (by omega) a, get _ _ (by omega) b, ⟨N, get _ _ (by omega) c, c'⟩, ⟨ta, tc, get _ _ (by omega) d, ?_⟩, get _ _ (by omega) e⟩
  by_cases h0 : x.to = []
  ·exact .inl h0
  ·right
   have hpos : 0 < x.to.length := List.length_pos_iff.2 h0
   have key : ∀ j t, x.to[j]? = some t → ∃ q, ta = some ⟨q, 0, none⟩ ∧ w0.heap.size ≤ q ∧ q < w.heap.size ∧ w.cell? ⟨q, j, none⟩ = some (.int .i64 t) := fun j t hj => rcell f (by simp [iV, hj])
   obtain ⟨q, e1, _, e3, _⟩ := key 0 x.to[0] (by simp [hpos])
   refine ⟨q, e1, e3, fun j t hj => ?_⟩
   obtain ⟨q', e1', _, _, e4⟩ := key j t hj
   rw [e1] at e1'
   injection e1' with e1'
   injection e1' with e1'
   rw [e1']
   exact e4
end Go.Proofs.YtdhmandnamajpaaGreatDoor
