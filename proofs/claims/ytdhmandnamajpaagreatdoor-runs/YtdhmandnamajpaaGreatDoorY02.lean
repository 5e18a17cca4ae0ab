import Derived.Test.YtdhmandnamajpaaGreatDoorY00
import Derived.Test.YtdhmandnamajpaaGreatDoorY01
namespace Go.Proofs.YtdhmandnamajpaaGreatDoor
open Go.RowKit
theorem w16_lt (x : Int) : w16 x < 65536 := by unfold w16; omega
theorem sumI_lt (op a b : Nat) : sumI op a b < 65536 := by
 unfold sumI
 repeat' split
 all_goals first | exact w16_lt _ | omega
theorem getD_lt {l : List Nat} (h : ∀ v ∈ l, v < 65536) (n : Nat) : l.getD n 0 < 65536 := by
 simp only [List.getD]
 cases hn : l[n]? with
 | none => simp
 | some v => exact h v (List.mem_of_getElem? hn)
theorem dropN_len (st : List Nat) (n : Nat) : (dropN st n).length = st.length - n := by simp [dropN]
theorem dropN_mem {st : List Nat} {n v : Nat} (h : v ∈ dropN st n) : v ∈ st := List.mem_of_mem_take h
theorem insI_n_lt (c : ByteArray) (p : Nat) : (insI c p).n < 65536 := by
 show (if byteN c p = 2 then 256 * byteN c (p + 1) + byteN c (p + 2) else if numOp (byteN c p) then byteN c (p + 1) else 0) < 65536
 have := byteN_lt c (p + 1)
 have := byteN_lt c (p + 2)
 repeat' split
 all_goals omega
theorem insI_to (c : ByteArray) (p : Nat) : ((insI c p).op = 15 → (insI c p).to.length = 1) ∧ ((insI c p).op = 16 → (insI c p).to.length = 1) ∧ ((insI c p).op = 17 → 1 ≤ (insI c p).to.length) := by
 refine ⟨fun h => ?_, fun h => ?_, fun h => ?_⟩
 ·have h' : byteN c p = 15 := h
  simp [insI, h', tos]
 ·have h' : byteN c p = 16 := h
  simp [insI, h', tos]
 ·have h' : byteN c p = 17 := h
  simp [insI, h', tos]
theorem Good.move {S : List Sec} {m m' : MS} {t b : Int} (h : Good S m) (e1 : m'.sec = m.sec) (e2 : m'.base = m.base) (e3 : m'.fr = m.fr) (ht : t ≤ (m.st.length : Int) - m.base) (hb : 0 ≤ b) (hst : (m'.st.length : Int) = m.st.length - t + b)
  (hat : AtH S m.sec m'.pl ((m.st.length : Int) - m.base - t + b)) (hv : ∀ v ∈ m'.st, v < 65536) (hm : ∀ v ∈ m'.mem, v < 65536) (hl : m'.mem.length = 16) (hf : m'.fin = none) : Good S m' := by
 have hbase := h.base
 refine ⟨?_, ?_, ?_, ?_, ?_, hv, hm, hl, hf⟩
 ·rw [e1, e2, hst]
  rw [show (m.st.length : Int) - t + b - m.base = (m.st.length : Int) - m.base - t + b by omega]
  exact hat
 ·rw [e2]; omega
 ·rw [e1, e2]; exact h.room
 ·rw [e1, e2, e3]; exact h.frames
 ·rw [e3]; exact h.few
theorem good_enter {S : List Sec} (hS : Sound S) {m : MS} {n : Nat} (hn : n < S.length) (hin : inS S n ≤ m.st.length) (hv : ∀ v ∈ m.st, v < 65536) (hm : ∀ v ∈ m.mem, v < 65536) (hl : m.mem.length = 16) (h8 : m.fr.length ≤ 8)
  (hfr : FrR S m.fr.reverse n (m.st.length - (inS S n).toNat)) (hf : (enterM S n m).fin = none) : Good S (enterM S n m) := by
 unfold enterM at hf ⊢
 split at hf
 ·cases hf
 ·rename_i hc
  rw [if_neg hc]
  obtain ⟨d1, d2, d3, d4⟩ := (secB_iff _).1 (hS.sec hn)
  have hi := inS_at S n hn
  refine ⟨⟨hn, 0, _, _, List.getElem?_eq_getElem (codeI_pos hS hn), ?_, hF_zero (codeI_pos hS hn), ?_, ?_⟩, ?_, ?_, hfr, h8, hv, hm, hl, hf⟩
  ·exact (chained (hS.chain hn)).zero _ (List.getElem?_eq_getElem (codeI_pos hS hn))
  ·simp only; omega
  ·simp only; omega
  ·simp only; omega
  ·simp only; omega
theorem good_step {S : List Sec} (hS : Sound S) {d : ByteArray} {m : MS} (h : Good S m) (hf : (stepM S d m).fin = none) : Good S (stepM S d m) := by
 have N := atH_now hS h.here
 unfold stepM at hf ⊢
 split at hf
 ·cases hf
 rename_i hc
 rw [if_neg hc]
 clear hc
 have hnow : nowI S m = insI (codeS S m.sec) m.pl := rfl
 have hnl : (nowI S m).n < 65536 := insI_n_lt _ _
 have hto := insI_to (codeS S m.sec) m.pl
 rw [← hnow] at N hto
 generalize nowI S m = x at *
 clear hnow
 have hv := h.vals
 have hm := h.mems
 have hml := h.mlen
 have htl := N.low
 have hbase := h.base
 obtain ⟨hk, _⟩ := h.here
 have e1 : (paidM x m).st = m.st := rfl
 have e2 : (paidM x m).mem = m.mem := rfl
 have e3 : (paidM x m).fr = m.fr := rfl
 have e4 : (paidM x m).fin = none := h.fin
 have e5 : (paidM x m).sec = m.sec := rfl
 have e6 : (paidM x m).base = m.base := rfl
 have e7 : (paidM x m).pl = x.nx := rfl
 generalize paidM x m = p at *
 have hmov : ∀ {m' : MS} {t b : Int}, takesI S S[m.sec] x = t → bringsI S x = b → m'.sec = p.sec → m'.base = p.base → m'.fr = p.fr → 0 ≤ b → (m'.st.length : Int) = m.st.length - t + b →
   (m'.pl = x.nx ∧ lastT x.op = false ∨ ∃ t ∈ x.to, m'.pl = t.toNat) → (∀ v ∈ m'.st, v < 65536) → (∀ v ∈ m'.mem, v < 65536) → m'.mem.length = 16 → m'.fin = none → Good S m' := by
  intro m' t b ht hb f1 f2 f3 hb0 hst hpl g1 g2 g3 g4
  subst ht hb
  refine h.move (f1.trans e5) (f2.trans e6) (f3.trans e3) htl hb0 hst ?_ g1 g2 g3 g4
  rcases hpl with ⟨q1, q2⟩ | ⟨t, q1, q2⟩
  ·rw [q1]; exact N.next q2
  ·rw [q2]; exact (N.to t q1).2
 have hvp : ∀ v ∈ p.st, v < 65536 := by rw [e1]; exact hv
 have hmp : ∀ v ∈ p.mem, v < 65536 := by rw [e2]; exact hm
 have hmlp : p.mem.length = 16 := by rw [e2]; exact hml
 have hvd : ∀ n, ∀ v ∈ dropN p.st n, v < 65536 := fun n v hv' => hvp v (dropN_mem hv')
 have snoc : ∀ {l : List Nat} {u : Nat}, (∀ v ∈ l, v < 65536) → u < 65536 → ∀ v ∈ l ++ [u], v < 65536 := by
  intro l u hl hu v hv'
  rcases List.mem_append.1 hv' with q | q
  ·exact hl v q
  ·simp at q; omega
 have hop := N.op
 rcases op_cases x.op with o | o | o | o | o | o | o | o | o | o | o | o | o | o | o | o | o
 ·rw [doI_0 S d x p o] at hf; cases hf
 ·rw [doI_1 S d x p o] at hf; cases hf
 ·rw [doI_2 S d x p o]
  refine hmov (t := 0) (b := 1) (by simp [takesI, takesT, o]) (by simp [bringsI, bringsT, o]) rfl rfl rfl (by omega) (by simp [e1]) (.inl ⟨e7, by rw [o]; rfl⟩) (snoc hvp hnl) hmp hmlp e4
 ·rw [doI_3 S d x p o]
  have ht : takesI S S[m.sec] x = 1 := by simp [takesI, takesT, o]
  refine hmov (t := 1) (b := 0) ht (by simp [bringsI, bringsT, o]) rfl rfl rfl (by omega) (by simp only [dropN_len, e1]; omega) (.inl ⟨e7, by rw [o]; rfl⟩) (hvd 1) hmp hmlp e4
 ·rw [doI_sum S d x p o]
  have o' : x.op = 4 ∨ x.op = 5 ∨ x.op = 6 ∨ x.op = 7 ∨ x.op = 8 := by omega
  have ht : takesI S S[m.sec] x = 2 := by rcases o' with q | q | q | q | q <;> simp [takesI, takesT, q]
  refine hmov (t := 2) (b := 1) ht (by rcases o' with q | q | q | q | q <;> simp [bringsI, bringsT, q]) rfl rfl rfl (by omega) (by simp only [List.length_append, dropN_len, e1, List.length_cons, List.length_nil]; omega) (.inl ⟨e7, by rcases o' with q | q | q | q | q <;> (rw [q]; rfl)⟩) (snoc (hvd 2) (sumI_lt _ _ _)) hmp hmlp e4
 ·rw [doI_9 S d x p o]
  have ht : takesI S S[m.sec] x = (1 : Int) + x.n := by simp [takesI, takesT, o]
  have hb : bringsI S x = (2 : Int) + x.n := by simp [bringsI, bringsT, o]
  refine hmov (t := (1 : Int) + x.n) (b := (2 : Int) + x.n) ht hb rfl rfl rfl (by omega) (by simp only [List.length_append, e1, List.length_cons, List.length_nil]; omega) (.inl ⟨e7, by rw [o]; rfl⟩) (snoc hvp (getD_lt hvp _)) hmp hmlp e4
 ·rw [doI_10 S d x p o]
  have ht : takesI S S[m.sec] x = (2 : Int) + x.n := by simp [takesI, takesT, o]
  have hb : bringsI S x = (2 : Int) + x.n := by simp [bringsI, bringsT, o]
  refine hmov (t := (2 : Int) + x.n) (b := (2 : Int) + x.n) ht hb rfl rfl rfl (by omega) (by simp only [List.length_set, e1]; omega) (.inl ⟨e7, by rw [o]; rfl⟩) ?_ hmp hmlp e4
  intro v hv'
  rcases List.mem_or_eq_of_mem_set hv' with q | q
  ·rcases List.mem_or_eq_of_mem_set q with q | q
   ·exact hvp v q
   ·rw [q]; exact getD_lt hvp _
  ·rw [q]; exact getD_lt hvp _
 ·rw [doI_11 S d x p o] at hf ⊢
  have ht : takesI S S[m.sec] x = 1 := by simp [takesI, takesT, o]
  split at hf
  ·cases hf
  ·rename_i h16
   rw [if_neg h16]
   refine hmov (t := 1) (b := 1) ht (by simp [bringsI, bringsT, o]) rfl rfl rfl (by omega) (by simp only [List.length_append, dropN_len, e1, List.length_cons, List.length_nil]; omega) (.inl ⟨e7, by rw [o]; rfl⟩) (snoc (hvd 1) (getD_lt hmp _)) hmp hmlp e4
 ·rw [doI_12 S d x p o] at hf ⊢
  have ht : takesI S S[m.sec] x = 2 := by simp [takesI, takesT, o]
  split at hf
  ·cases hf
  ·rename_i h16
   rw [if_neg h16]
   refine hmov (t := 2) (b := 0) ht (by simp [bringsI, bringsT, o]) rfl rfl rfl (by omega) (by simp only [dropN_len, e1]; omega) (.inl ⟨e7, by rw [o]; rfl⟩) (hvd 2) ?_ (by simp [hmlp]) e4
   intro v hv'
   rcases List.mem_or_eq_of_mem_set hv' with q | q
   ·exact hmp v q
   ·rw [q]; exact getD_lt hvp _
 ·rw [doI_13 S d x p o]
  have ht : takesI S S[m.sec] x = 1 := by simp [takesI, takesT, o]
  have := byteN_lt d (topN p.st 0)
  refine hmov (t := 1) (b := 1) ht (by simp [bringsI, bringsT, o]) rfl rfl rfl (by omega) (by simp only [List.length_append, dropN_len, e1, List.length_cons, List.length_nil]; omega) (.inl ⟨e7, by rw [o]; rfl⟩) (snoc (hvd 1) (by omega)) hmp hmlp e4
 ·rw [doI_14 S d x p o]
  have ht : takesI S S[m.sec] x = 1 := by simp [takesI, takesT, o]
  refine hmov (t := 1) (b := 0) ht (by simp [bringsI, bringsT, o]) rfl rfl rfl (by omega) (by simp only [dropN_len, e1]; omega) (.inl ⟨e7, by rw [o]; rfl⟩) (hvd 1) hmp hmlp e4
 ·rw [doI_15 S d x p o]
  have hl := hto.1 o
  have hmem : x.to.getD 0 0 ∈ x.to := by simp [List.getD, show 0 < x.to.length by omega]
  refine hmov (t := 0) (b := 0) (by simp [takesI, takesT, o]) (by simp [bringsI, bringsT, o]) rfl rfl rfl (by omega) (by simp [e1]) (.inr ⟨_, hmem, rfl⟩) hvp hmp hmlp e4
 ·rw [doI_16 S d x p o]
  have hl := hto.2.1 o
  have ht : takesI S S[m.sec] x = 1 := by simp [takesI, takesT, o]
  have hmem : x.to.getD 0 0 ∈ x.to := by simp [List.getD, show 0 < x.to.length by omega]
  refine hmov (t := 1) (b := 0) ht (by simp [bringsI, bringsT, o]) rfl rfl rfl (by omega) (by simp only [dropN_len, e1]; omega) ?_ (hvd 1) hmp hmlp e4
  by_cases h0 : topN p.st 0 = 0
  ·left; simp only [if_pos h0]; exact ⟨e7, by rw [o]; rfl⟩
  ·right; simp only [if_neg h0]; exact ⟨_, hmem, rfl⟩
 ·rw [doI_17 S d x p o]
  have ht : takesI S S[m.sec] x = 1 := by simp [takesI, takesT, o]
  refine hmov (t := 1) (b := 0) ht (by simp [bringsI, bringsT, o]) rfl rfl rfl (by omega) (by simp only [dropN_len, e1]; omega) ?_ (hvd 1) hmp hmlp e4
  by_cases h0 : topN p.st 0 < x.to.length
  ·right; simp only [if_pos h0]; exact ⟨x.to.getD (topN p.st 0) 0, by simp [List.getD, h0], rfl⟩
  ·left; simp only [if_neg h0]; exact ⟨e7, by rw [o]; rfl⟩
 ·rw [doI_18 S d x p o] at hf ⊢
  split at hf
  ·cases hf
  ·rename_i h8
   rw [if_neg h8]
   have hnm : namesB x = true := by simp [namesB, o]
   obtain ⟨n1, n2⟩ := N.name hnm
   have ht : takesI S S[m.sec] x = inS S x.n := by simp [takesI, o]
   have hb : bringsI S x = outS S x.n := by simp [bringsI, o]
   have hf8 := h.few
   have hnx := N.next (by rw [o]; rfl)
   rw [ht] at htl hnx
   rw [hb] at hnx
   obtain ⟨d1, d2, d3, d4⟩ := (secB_iff _).1 (hS.sec n1)
   have hi := inS_at S x.n n1
   refine good_enter hS n1 (by simp only [e1]; omega) hvp hmp hmlp ?_ ?_ hf
   ·simp only [List.length_append, List.length_cons, List.length_nil, e3] at h8 ⊢; omega
   ·simp only [List.reverse_append, List.reverse_cons, List.reverse_nil, List.nil_append, List.cons_append, e1, e3, e5, e6, e7]
    refine ⟨by omega, hk, h.room, fun _ => ?_, h.frames⟩
    rw [show ((m.st.length - (inS S x.n).toNat : Nat) : Int) + outS S x.n - m.base = (m.st.length : Int) - m.base - inS S x.n + outS S x.n by omega]
    exact hnx
 ·rw [doI_19 S d x p o]
  have hr : returnsB S x = true := by simp [returnsB, o]
  obtain ⟨r1, r2, _⟩ := N.ret hr
  have hw : wantI S S[m.sec] x = S[m.sec].o := by simp [wantI, o]
  rw [hw] at r2
  have ho := outS_at S m.sec hk
  have hfr := h.frames
  have hf8 := h.few
  simp only [e3, e1]
  cases hrev : m.fr.reverse with
  | nil => rw [hrev] at hfr; exact absurd (ho.symm.trans hfr) r1
  | cons f r =>
   rw [hrev] at hfr
   obtain ⟨fs, fp, fb⟩ := f
   obtain ⟨q1, q2, q3, q4, q5⟩ := hfr
   have hfe : m.fr = r.reverse ++ [(fs, fp, fb)] := by
    have := congrArg List.reverse hrev
    simpa using this
   rw [hfe] at hf8 ⊢
   simp only [List.getLastD_eq_getLast?, List.getLast?_append, List.getLast?_singleton, Option.some_or, Option.getD_some, List.dropLast_concat]
   have hat := q4 (by rw [ho]; exact r1)
   refine ⟨?_, ?_, q3, by simpa using q5, ?_, hv, hmp, hmlp, e4⟩
   ·simp only
    rw [ho] at hat
    rw [show (m.st.length : Int) - fb = (m.base : Int) + S[m.sec].o - fb by omega]
    exact hat
   ·simp only; omega
   ·simp only [List.length_append, List.length_reverse, List.length_cons, List.length_nil] at hf8 ⊢; omega
 ·rw [doI_20 S d x p o] at hf ⊢
  have o' : x.op = 20 := by omega
  have hnm : namesB x = true := by simp [namesB, o']
  obtain ⟨n1, _⟩ := N.name hnm
  have ht : takesI S S[m.sec] x = inS S x.n := by simp [takesI, o']
  rw [ht] at htl
  obtain ⟨d1, d2, d3, d4⟩ := (secB_iff _).1 (hS.sec n1)
  obtain ⟨g1, g2, g3, g4⟩ := (secB_iff _).1 (hS.sec hk)
  have hi := inS_at S x.n n1
  refine good_enter hS n1 (by rw [e1]; omega) hvp hmp hmlp (by rw [e3]; exact h.few) ?_ hf
  rw [e1, e3]
  have hfr := h.frames
  by_cases hnev : outS S x.n = 128
  ·cases hrev : m.fr.reverse with
   | nil => exact hnev
   | cons f r =>
    rw [hrev] at hfr
    obtain ⟨fs, fp, fb⟩ := f
    obtain ⟨q1, q2, q3, q4, q5⟩ := hfr
    exact ⟨by omega, q2, q3, fun hne => absurd hnev hne, q5⟩
  ·have hr : returnsB S x = true := by simp [returnsB, o', hnev]
   obtain ⟨r1, r2, r3⟩ := N.ret hr
   have r4 := r3 o'
   have hw : wantI S S[m.sec] x = S[m.sec].o + (inS S x.n - outS S x.n) := by simp [wantI, o']
   rw [hw] at r2
   have ho := outS_at S m.sec hk
   cases hrev : m.fr.reverse with
   | nil => rw [hrev] at hfr; exact absurd (ho.symm.trans hfr) r1
   | cons f r =>
    rw [hrev] at hfr
    obtain ⟨fs, fp, fb⟩ := f
    obtain ⟨q1, q2, q3, q4, q5⟩ := hfr
    have hat := q4 (by rw [ho]; exact r1)
    refine ⟨by omega, q2, q3, fun _ => ?_, q5⟩
    rw [ho] at hat
    rw [show ((m.st.length - (inS S x.n).toNat : Nat) : Int) + outS S x.n - fb = (m.base : Int) + S[m.sec].o - fb by omega]
    exact hat
theorem good_start {S : List Sec} (hS : Sound S) (gas : Nat) : Good S (startM gas) := by
 have h0 : 0 < S.length := hS.len
 obtain ⟨d1, d2, d3, d4⟩ := (secB_iff _).1 (hS.sec h0)
 have hi := inS_at S 0 h0
 have hf := hS.first
 refine ⟨⟨h0, 0, _, _, List.getElem?_eq_getElem (codeI_pos hS h0), ?_, hF_zero (codeI_pos hS h0), ?_, ?_⟩, Nat.zero_le _, ?_, hf.2, by simp [startM], by simp [startM], ?_, by simp [startM], rfl⟩
 ·exact (chained (hS.chain h0)).zero _ (List.getElem?_eq_getElem (codeI_pos hS h0))
 ·simp only [startM, List.length_nil]; omega
 ·simp only [startM, List.length_nil]; omega
 ·show (0 : Int) + maxS S 0 ≤ 64
  rw [maxS_get S 0 h0]; omega
 ·intro v hv
  simp only [startM, List.mem_replicate] at hv
  omega
end Go.Proofs.YtdhmandnamajpaaGreatDoor
namespace Go.Proofs.YtdhmandnamajpaaGreatDoor
open Go.RowKit
theorem runM_done {S : List Sec} {d : ByteArray} {m : MS} (h : m.fin.isSome = true) (f : Nat) : runM S d f m = m := by
 cases f with
 | zero => rfl
 | succ f => unfold runM; rw [if_pos h]
theorem runM_fuel (S : List Sec) (d : ByteArray) : ∀ (f f' : Nat) (m : MS), m.gas < f → m.gas < f' → runM S d f m = runM S d f' m := by
 intro f
 induction f with
 | zero => intro f' m h; omega
 | succ f ih =>
  intro f' m h h'
  cases f' with
  | zero => omega
  | succ f' =>
   unfold runM
   split
   ·rfl
   ·cases hf : (stepM S d m).fin with
    | none =>
     have := (stepM_gas S d m hf).1
     exact ih f' _ (by omega) (by omega)
    | some e => rw [runM_done (by rw [hf]; rfl), runM_done (by rw [hf]; rfl)]
def fateM (S : List Sec) (d : ByteArray) (m : MS) : MS := runM S d (m.gas + 1) m
theorem fate_done {S : List Sec} {d : ByteArray} {m : MS} (h : m.fin.isSome = true) : fateM S d m = m := runM_done h _
theorem fate_step {S : List Sec} {d : ByteArray} {m : MS} (h : m.fin = none) : fateM S d m = fateM S d (stepM S d m) := by
 unfold fateM
 rw [show runM S d (m.gas + 1) m = runM S d m.gas (stepM S d m) by rw [runM, h]; rfl]
 cases hf : (stepM S d m).fin with
 | none =>
  have := (stepM_gas S d m hf).1
  exact runM_fuel S d _ _ _ (by omega) (by omega)
 | some e => rw [runM_done (by rw [hf]; rfl), runM_done (by rw [hf]; rfl)]
theorem traceM_fuel (S : List Sec) (d : ByteArray) : ∀ (f f' : Nat) (m : MS), m.gas < f → m.gas < f' → traceM S d f m = traceM S d f' m := by
 intro f
 induction f with
 | zero => intro f' m h; omega
 | succ f ih =>
  intro f' m h h'
  cases f' with
  | zero => omega
  | succ f' =>
   unfold traceM
   split
   ·rfl
   ·split
    ·rfl
    ·rename_i hc
     congr 1
     have hs : (stepM S d m).gas < m.gas := by
      unfold stepM
      rw [if_neg hc, (doI_gas S d _ _).1]
      have := costT_pos (nowI S m).op
      show m.gas - costT (nowI S m).op < m.gas
      omega
     exact ih f' _ (by omega) (by omega)
def tellsM (S : List Sec) (d : ByteArray) (m : MS) : List (Nat × Nat × Int) := traceM S d (m.gas + 1) m
theorem tells_done {S : List Sec} {d : ByteArray} {m : MS} (h : m.fin.isSome = true) : tellsM S d m = [] := by unfold tellsM traceM; rw [if_pos h]
theorem tells_empty {S : List Sec} {d : ByteArray} {m : MS} (h : m.fin = none) (hc : m.gas < costT (nowI S m).op) : tellsM S d m = [] := by unfold tellsM traceM; rw [h]; simp [hc]
theorem tells_step {S : List Sec} {d : ByteArray} {m : MS} (h : m.fin = none) (hc : ¬ m.gas < costT (nowI S m).op) : tellsM S d m = tellM m :: tellsM S d (stepM S d m) := by
 unfold tellsM
 rw [show traceM S d (m.gas + 1) m = tellM m :: traceM S d m.gas (stepM S d m) by rw [traceM, h]; simp [hc]]
 congr 1
 have hs : (stepM S d m).gas < m.gas := by
  unfold stepM
  rw [if_neg hc, (doI_gas S d _ _).1]
  have := costT_pos (nowI S m).op
  show m.gas - costT (nowI S m).op < m.gas
  omega
 exact traceM_fuel S d _ _ _ (by omega) (by omega)
def outM (m : MS) : List Nat := if m.fin = some 0 then m.out else []
def endOf (m : MS) : Nat := m.fin.getD 0
theorem Good.small {S : List Sec} (hS : Sound S) {m : MS} (h : Good S m) : m.st.length ≤ 64 := by
 have N := atH_now hS h.here
 have := N.high
 have := h.room
 rw [maxS_get S m.sec N.lt] at this
 omega
end Go.Proofs.YtdhmandnamajpaaGreatDoor
namespace Go.Proofs.YtdhmandnamajpaaGreatDoor
open Go.RowKit Go.Joins
set_option maxHeartbeats 400000
theorem outS_get (S : List Sec) (n : Nat) (h : n < S.length) : outS S n = S[n].o := by simp [outS, h]
theorem inS_get (S : List Sec) (n : Nat) (h : n < S.length) : inS S n = S[n].i := by simp [inS, h]
theorem bdr {B : Nat} {a w : World} (h : Below B a w) (n : Nat) : Below B a (w.drewN n) := ⟨h.os, h.tape, h.output, h.size, h.block⟩
theorem below2 (w : World) (o o' : Obj) : Below w.heap.size w ((w.alloc o).alloc o') := ((Below.refl _ _).alloc (Nat.le_refl _) _).alloc (by simp) _
theorem ret_two {k : IntKind} {a b c d : Int} (h : a = c) (h' : b = d) : Ending.returned (.tuple #[.int k a, .int k b]) = .returned (.tuple #[.int k c, .int k d]) := by rw [h, h']
theorem effect_dup (op pl nx n : Nat) (v t : Value) (s : Sec) (w : World) (hR : RowsAt w) (ho : op = 9 ∨ op = 10) (hn : n < 256) :
  Calls Tryz.prog 122 #[.agg #[.int .i64 op, .int .i64 pl, .int .i64 nx, .int .i64 n, t], v, .agg #[.int .i64 s.i, .int .i64 s.o, .int .i64 s.m, .string s.code]] w
   fun e w' => e = .returned (.tuple #[.int .i64 ((takesT op : Int) + n), .int .i64 ((bringsT op : Int) + n)]) ∧ Below w.heap.size w w' := by
 have h0 := hR.1
 rcases ho with rfl | rfl
 ·have r1 : w.cell? ⟨0, 46, none⟩ = some (.int .i64 1) := (hR.2 9 (by decide)).2.1
  have r2 : w.cell? ⟨0, 47, none⟩ = some (.int .i64 2) := (hR.2 9 (by decide)).2.2.1
  clear hR
  go_enter Tryz.func122, Tryz.ntmps122
  go_wp2_with fail
  go_quiet (fail)
  go_wp2_with fail
  go_quiet (fail)
  go_wp2_with fail
  go_ret2
  exact ⟨ret_two (by simp [takesT]) (by simp [bringsT]), bdr (bdr (below2 _ _ _) _) _⟩
 ·have r1 : w.cell? ⟨0, 51, none⟩ = some (.int .i64 2) := (hR.2 10 (by decide)).2.1
  have r2 : w.cell? ⟨0, 52, none⟩ = some (.int .i64 2) := (hR.2 10 (by decide)).2.2.1
  clear hR
  go_enter Tryz.func122, Tryz.ntmps122
  go_wp2_with fail
  go_quiet (fail)
  go_wp2_with fail
  go_quiet (fail)
  go_wp2_with fail
  go_ret2
  exact ⟨ret_two (by simp [takesT]) (by simp [bringsT]), bdr (bdr (below2 _ _ _) _) _⟩
theorem effect_call (S : List Sec) (pl nx n b off cap : Nat) (t : Value) (s : Sec) (w : World) (hR : RowsAt w) (hS : SecsAt w b off S) (hn : n < S.length) :
  Calls Tryz.prog 122 #[.agg #[.int .i64 18, .int .i64 pl, .int .i64 nx, .int .i64 n, t], .slice (some ⟨b, off, none⟩) S.length cap, .agg #[.int .i64 s.i, .int .i64 s.o, .int .i64 s.m, .string s.code]] w
   fun e w' => e = .returned (.tuple #[.int .i64 (inS S n), .int .i64 (outS S n)]) ∧ Below w.heap.size w w' := by
 have h0 := hR.1
 have r1 : w.cell? ⟨0, 91, none⟩ = some (.int .i64 0) := (hR.2 18 (by decide)).2.1
 have r2 : w.cell? ⟨0, 92, none⟩ = some (.int .i64 0) := (hR.2 18 (by decide)).2.2.1
 obtain ⟨c0, c1, _, _⟩ := hS.at n hn
 have hb := hS.1
 rw [inS_get S n hn, outS_get S n hn]
 clear hR hS
 go_enter Tryz.func122, Tryz.ntmps122
 go_wp2_with fail
 go_quiet (fail)
 go_wp2_with fail
 go_quiet (fail)
 go_wp2_with fail
 go_ret2
 exact ⟨rfl, bdr (bdr (below2 _ _ _) _) _⟩
theorem effect_goto (S : List Sec) (pl nx n b off cap : Nat) (t : Value) (s : Sec) (w : World) (hR : RowsAt w) (hS : SecsAt w b off S) (hn : n < S.length) :
  Calls Tryz.prog 122 #[.agg #[.int .i64 20, .int .i64 pl, .int .i64 nx, .int .i64 n, t], .slice (some ⟨b, off, none⟩) S.length cap, .agg #[.int .i64 s.i, .int .i64 s.o, .int .i64 s.m, .string s.code]] w
   fun e w' => e = .returned (.tuple #[.int .i64 (inS S n), .int .i64 0]) ∧ Below w.heap.size w w' := by
 have h0 := hR.1
 have r1 : w.cell? ⟨0, 101, none⟩ = some (.int .i64 0) := (hR.2 20 (by decide)).2.1
 have r2 : w.cell? ⟨0, 102, none⟩ = some (.int .i64 0) := (hR.2 20 (by decide)).2.2.1
 obtain ⟨c0, c1, _, _⟩ := hS.at n hn
 have hb := hS.1
 rw [inS_get S n hn]
 clear hR hS
 go_enter Tryz.func122, Tryz.ntmps122
 go_wp2_with fail
 go_quiet (fail)
 go_wp2_with fail
 go_ret2
 exact ⟨rfl, bdr (below2 _ _ _) _⟩
theorem effect_return (pl nx n : Nat) (v t : Value) (s : Sec) (w : World) (hR : RowsAt w) :
  Calls Tryz.prog 122 #[.agg #[.int .i64 19, .int .i64 pl, .int .i64 nx, .int .i64 n, t], v, .agg #[.int .i64 s.i, .int .i64 s.o, .int .i64 s.m, .string s.code]] w
   fun e w' => e = .returned (.tuple #[.int .i64 (if s.o = 128 then 0 else s.o), .int .i64 0]) ∧ Below w.heap.size w w' := by
 have h0 := hR.1
 have r1 : w.cell? ⟨0, 96, none⟩ = some (.int .i64 0) := (hR.2 19 (by decide)).2.1
 have r2 : w.cell? ⟨0, 97, none⟩ = some (.int .i64 0) := (hR.2 19 (by decide)).2.2.1
 clear hR
 generalize hz : (if s.o = 128 then (0 : Int) else s.o) = z
 have HZ : Hid ((if s.o = 128 then (0 : Int) else s.o) = z) := hz
 clear hz
 go_enter Tryz.func122, Tryz.ntmps122
 go_wp2_with fail
 go_quiet (fail)
 go_wp2_with (go_at_call 138; refine (ops_outputs s _).mono ?_; rw [HZ.out]; rintro e w1 ⟨rfl, hb1⟩)
 go_ret2
 exact ⟨rfl, (bdr (below2 _ _ _) _).trans (hb1.mono (by simp [World.drewN]; omega))⟩
theorem effect_plain (op pl nx n : Nat) (v t : Value) (s : Sec) (w : World) (hR : RowsAt w) (ho : op < 21) (h9 : op ≠ 9) (h10 : op ≠ 10) (h18 : op ≠ 18) (h19 : op ≠ 19) (h20 : op ≠ 20) :
  Calls Tryz.prog 122 #[.agg #[.int .i64 op, .int .i64 pl, .int .i64 nx, .int .i64 n, t], v, .agg #[.int .i64 s.i, .int .i64 s.o, .int .i64 s.m, .string s.code]] w
   fun e w' => e = .returned (.tuple #[.int .i64 (takesT op), .int .i64 (bringsT op)]) ∧ Below w.heap.size w w' := by
 have h0 := hR.1
 obtain ⟨_, r1, r2, _, _⟩ := hR.2 op ho
 clear hR
 go_enter Tryz.func122, Tryz.ntmps122
 go_wp2_with fail
 go_quiet (fail)
 go_wp2_with fail
 go_ret2
 exact ⟨rfl, bdr (below2 _ _ _) _⟩
theorem effect_all (S : List Sec) (x : Ins) (b off cap : Nat) (t : Value) (s : Sec) (w : World) (hR : RowsAt w) (hS : SecsAt w b off S) (ho : x.op < 21) (hx : x.op = 2 ∨ x.n < 256) (hn : namesB x = true → x.n < S.length) :
  Calls Tryz.prog 122 #[.agg #[.int .i64 x.op, .int .i64 x.pl, .int .i64 x.nx, .int .i64 x.n, t], .slice (some ⟨b, off, none⟩) S.length cap, .agg #[.int .i64 s.i, .int .i64 s.o, .int .i64 s.m, .string s.code]] w
   fun e w' => e = .returned (.tuple #[.int .i64 (takesI S s x), .int .i64 (bringsI S x)]) ∧ Below w.heap.size w w' := by
 obtain ⟨op, pl, nx, n, to⟩ := x
 simp only at ho hx
 by_cases h1 : op = 9 ∨ op = 10
 ·have e1 : takesI S s ⟨op, pl, nx, n, to⟩ = (takesT op : Int) + n := by simp [takesI, h1]
  have e2 : bringsI S ⟨op, pl, nx, n, to⟩ = (bringsT op : Int) + n := by simp [bringsI, h1]
  rw [e1, e2]
  exact effect_dup op pl nx n _ t s w hR h1 (by omega)
 ·by_cases h2 : op = 18
  ·subst h2
   exact effect_call S pl nx n b off cap t s w hR hS (hn rfl)
  ·by_cases h3 : op = 20
   ·subst h3
    exact effect_goto S pl nx n b off cap t s w hR hS (hn rfl)
   ·by_cases h4 : op = 19
    ·subst h4
     exact effect_return pl nx n _ t s w hR
    ·have e1 : takesI S s ⟨op, pl, nx, n, to⟩ = (takesT op : Int) := by simp [takesI, h1, h2, h3, h4]
     have e2 : bringsI S ⟨op, pl, nx, n, to⟩ = (bringsT op : Int) := by simp [bringsI, h1, h2, h3, h4]
     rw [e1, e2]
     exact effect_plain op pl nx n _ t s w hR ho (by omega) (by omega) h2 h4 h3
theorem check_names (x : Ins) (t : Value) (w : World) :
  Calls Tryz.prog 87 #[.agg #[.int .i64 x.op, .int .i64 x.pl, .int .i64 x.nx, .int .i64 x.n, t]] w fun e w' => e = .returned (.bool (namesB x)) ∧ Below w.heap.size w w' := by
 by_cases h1 : x.op = 18
 ·have e : Hid (namesB x = true) := by show namesB x = true; simp [namesB, h1]
  go_enter Tryz.func87, Tryz.ntmps87
  go_wp2
  go_ret
  exact ⟨ret_bool (by rw [e.out]), (Below.refl _ _).alloc (Nat.le_refl _) _⟩
 ·by_cases h2 : x.op = 20
  ·have e : Hid (namesB x = true) := by show namesB x = true; simp [namesB, h2]
   go_enter Tryz.func87, Tryz.ntmps87
   go_wp2
   go_ret
   exact ⟨ret_bool (by rw [e.out]), (Below.refl _ _).alloc (Nat.le_refl _) _⟩
  ·have e : Hid (namesB x = false) := by show namesB x = false; simp [namesB, h1, h2]
   have h3 : ((x.op : Int) == 18) = false := by simp; omega
   have h4 : ((x.op : Int) == 20) = false := by simp; omega
   go_enter Tryz.func87, Tryz.ntmps87
   go_wp2
   go_ret
   exact ⟨ret_bool (by rw [e.out]), (Below.refl _ _).alloc (Nat.le_refl _) _⟩
end Go.Proofs.YtdhmandnamajpaaGreatDoor
namespace Go.Proofs.YtdhmandnamajpaaGreatDoor
open Go.RowKit Go.Joins
structure Kp (B r : Nat) (w w' : World) : Prop where
 os : w'.os = w.os
 tape : w'.tape = w.tape
 output : w'.output = w.output
 size : w.heap.size ≤ w'.heap.size
 block : ∀ k, k < B → k ≠ r → w'.heap[k]? = w.heap[k]?
theorem Kp.refl (B r : Nat) (w : World) : Kp B r w w := ⟨rfl, rfl, rfl, Nat.le_refl _, fun _ _ _ => rfl⟩
theorem Kp.trans {B r : Nat} {a b c : World} (h : Kp B r a b) (k : Kp B r b c) : Kp B r a c :=
 ⟨k.os.trans h.os, k.tape.trans h.tape, k.output.trans h.output, Nat.le_trans h.size k.size, fun i hi hne => (k.block i hi hne).trans (h.block i hi hne)⟩
theorem Kp.mono {B B' r : Nat} {w w' : World} (h : Kp B r w w') (hB : B' ≤ B) : Kp B' r w w' := ⟨h.os, h.tape, h.output, h.size, fun k hk hne => h.block k (by omega) hne⟩
theorem Kp.of {B : Nat} {w w' : World} (h : Below B w w') (r : Nat) : Kp B r w w' := ⟨h.os, h.tape, h.output, h.size, fun k hk _ => h.block k hk⟩
theorem Kp.alloc {B r : Nat} {a w : World} (h : Kp B r a w) (hB : B ≤ w.heap.size) (o : Obj) : Kp B r a (w.alloc o) :=
 h.trans ⟨rfl, rfl, rfl, by simp, fun k hk _ => Below.heap_alloc _ _ _ (by omega)⟩
theorem Kp.set {B r : Nat} {a w : World} (h : Kp B r a w) (i : Nat) (u : Value) : Kp B r a (w.setCell ⟨r, i, none⟩ u) :=
 h.trans ⟨rfl, rfl, rfl, by simp [World.setCell], fun k hk hne => Below.heap_setCell _ _ _ _ hne⟩
theorem Kp.drewN {B r : Nat} {a w : World} (h : Kp B r a w) (n : Nat) : Kp B r a (w.drewN n) := h.trans ⟨rfl, rfl, rfl, Nat.le_refl _, fun _ _ _ => rfl⟩
theorem Kp.cell {B r : Nat} {w w' : World} (h : Kp B r w w') {g : Nat} (hB : g < B) (hr : g ≠ r) (o : Nat) : w'.cell? ⟨g, o, none⟩ = w.cell? ⟨g, o, none⟩ := World.cell?_of_block (w := w) (h.block g hB hr)
theorem blt {w : World} {k : Nat} {o : Obj} (h : w.heap[k]? = some o) : k < w.heap.size := by
 rcases Nat.lt_or_ge k w.heap.size with hlt | hge
 ·exact hlt
 ·rw [Array.getElem?_eq_none hge] at h; cases h
theorem SecsAt.kp {w w' : World} {b off r : Nat} {S : List Sec} (h : SecsAt w b off S) (hb : Kp w.heap.size r w w') (hr : b ≠ r) : SecsAt w' b off S := by
 refine ⟨Nat.lt_of_lt_of_le h.1 hb.size, fun k s hk => ?_⟩
 obtain ⟨c0, c1, c2, c3⟩ := h.2 k s hk
 exact ⟨(hb.cell h.1 hr _).trans c0, (hb.cell h.1 hr _).trans c1, (hb.cell h.1 hr _).trans c2, (hb.cell h.1 hr _).trans c3⟩
theorem RowsAt.kp {w w' : World} {r : Nat} (h : RowsAt w) (hb : Kp w.heap.size r w w') (hr : 0 ≠ r) : RowsAt w' := by
 refine ⟨Nat.lt_of_lt_of_le h.1 hb.size, fun op ho => ?_⟩
 obtain ⟨c0, c1, c2, c3, c4⟩ := h.2 op ho
 exact ⟨(hb.cell h.1 hr _).trans c0, (hb.cell h.1 hr _).trans c1, (hb.cell h.1 hr _).trans c2, (hb.cell h.1 hr _).trans c3, (hb.cell h.1 hr _).trans c4⟩
def TosAt (w : World) (H : Nat) (v : Value) (to : List Int) : Prop :=
 ∃ g cap, v = .slice (some ⟨g, 0, none⟩) to.length cap ∧ g < w.heap.size ∧ g ≠ H ∧ ∀ j t, to[j]? = some t → w.cell? ⟨g, j, none⟩ = some (.int .i64 t)
def TosAt0 (w : World) (H : Nat) (v : Value) (to : List Int) : Prop := (v = .slice none 0 0 ∧ to = []) ∨ TosAt w H v to
theorem TosAt0.kp {w w' : World} {r : Nat} {v : Value} {to : List Int} (h : TosAt0 w r v to) (hb : Kp w.heap.size r w w') : TosAt0 w' r v to := by
 rcases h with h | ⟨g, cap, e, h1, h2, h3⟩
 ·exact .inl h
 ·exact .inr ⟨g, cap, e, Nat.lt_of_lt_of_le h1 hb.size, h2, fun j t hj => (hb.cell h1 h2 _).trans (h3 j t hj)⟩
structure InsAt (w : World) (H g : Nat) (l : List Ins) : Prop where
 lt : g < w.heap.size
 ne : g ≠ H
 cells : ∀ k x, l[k]? = some x → w.cell? ⟨g, k * 5, none⟩ = some (.int .i64 x.op) ∧ w.cell? ⟨g, k * 5 + 1, none⟩ = some (.int .i64 x.pl) ∧ w.cell? ⟨g, k * 5 + 2, none⟩ = some (.int .i64 x.nx) ∧
  w.cell? ⟨g, k * 5 + 3, none⟩ = some (.int .i64 x.n) ∧ ∃ v, w.cell? ⟨g, k * 5 + 4, none⟩ = some v ∧ TosAt0 w H v x.to
theorem InsAt.kp {w w' : World} {H g : Nat} {l : List Ins} (h : InsAt w H g l) (hb : Kp w.heap.size H w w') : InsAt w' H g l where
 lt := Nat.lt_of_lt_of_le h.lt hb.size
 ne := h.ne
 cells := fun k x hk => by
  obtain ⟨c0, c1, c2, c3, v, c4, c5⟩ := h.cells k x hk
  exact ⟨(hb.cell h.lt h.ne _).trans c0, (hb.cell h.lt h.ne _).trans c1, (hb.cell h.lt h.ne _).trans c2, (hb.cell h.lt h.ne _).trans c3, v, (hb.cell h.lt h.ne _).trans c4, c5.kp hb⟩
structure Look (w : World) (L H : Nat) (S : List Sec) (s : Sec) (b off cap g cc : Nat) (l : List Ins) : Prop where
 blk : w.heap[L]? = some (.cells #[.slice (some ⟨b, off, none⟩) S.length cap, .int .i64 s.i, .int .i64 s.o, .int .i64 s.m, .string s.code, .slice (some ⟨g, 0, none⟩) l.length cc, .slice (some ⟨H, 0, none⟩) s.code.size s.code.size] 104 (0, 0))
 secs : SecsAt w b off S
 code : InsAt w H g l
 rows : RowsAt w
 neL : L ≠ H
 neb : b ≠ H
 ne0 : 0 ≠ H
theorem Look.kp {w w' : World} {L H : Nat} {S : List Sec} {s : Sec} {b off cap g cc : Nat} {l : List Ins} (h : Look w L H S s b off cap g cc l) (hb : Kp w.heap.size H w w') : Look w' L H S s b off cap g cc l :=
 ⟨(hb.block L (blt h.blk) h.neL).trans h.blk, h.secs.kp hb h.neb, h.code.kp hb, h.rows.kp hb h.ne0, h.neL, h.neb, h.ne0⟩
theorem Look.below {w w' : World} {L H : Nat} {S : List Sec} {s : Sec} {b off cap g cc : Nat} {l : List Ins} (h : Look w L H S s b off cap g cc l) (hb : Below w.heap.size w w') : Look w' L H S s b off cap g cc l := h.kp (Kp.of hb H)
theorem Look.alloc {w : World} {L H : Nat} {S : List Sec} {s : Sec} {b off cap g cc : Nat} {l : List Ins} (h : Look w L H S s b off cap g cc l) (o : Obj) : Look (w.alloc o) L H S s b off cap g cc l := h.kp ((Kp.refl _ _ _).alloc (Nat.le_refl _) _)
theorem Look.facts {w : World} {L H : Nat} {S : List Sec} {s : Sec} {b off cap g cc : Nat} {l : List Ins} (h : Look w L H S s b off cap g cc l) :
  w.cell? ⟨L, 0, none⟩ = some (.slice (some ⟨b, off, none⟩) S.length cap) ∧ w.cell? ⟨L, 1, none⟩ = some (.int .i64 s.i) ∧ w.cell? ⟨L, 2, none⟩ = some (.int .i64 s.o) ∧ w.cell? ⟨L, 3, none⟩ = some (.int .i64 s.m) ∧
   w.cell? ⟨L, 4, none⟩ = some (.string s.code) ∧ w.cell? ⟨L, 5, none⟩ = some (.slice (some ⟨g, 0, none⟩) l.length cc) ∧ w.cell? ⟨L, 6, none⟩ = some (.slice (some ⟨H, 0, none⟩) s.code.size s.code.size) ∧ L < w.heap.size := by
 refine ⟨?_, ?_, ?_, ?_, ?_, ?_, ?_, blt h.blk⟩ <;> (rw [cell_of_block h.blk]; rfl)
theorem Look.ins {w : World} {L H : Nat} {S : List Sec} {s : Sec} {b off cap g cc : Nat} {l : List Ins} (h : Look w L H S s b off cap g cc l) (k : Nat) (hk : k < l.length) :
  w.cell? ⟨g, k * 5, none⟩ = some (.int .i64 l[k].op) ∧ w.cell? ⟨g, k * 5 + 1, none⟩ = some (.int .i64 l[k].pl) ∧ w.cell? ⟨g, k * 5 + 2, none⟩ = some (.int .i64 l[k].nx) ∧
  w.cell? ⟨g, k * 5 + 3, none⟩ = some (.int .i64 l[k].n) ∧ (∃ a c, w.cell? ⟨g, k * 5 + 4, none⟩ = some (.slice a l[k].to.length c) ∧ TosAt0 w H (.slice a l[k].to.length c) l[k].to) ∧ g < w.heap.size := by
 obtain ⟨c0, c1, c2, c3, v, c4, c5⟩ := h.code.cells k l[k] (by simp [hk])
 refine ⟨c0, c1, c2, c3, ?_, h.code.lt⟩
 rcases c5 with ⟨rfl, e⟩ | ⟨g', cap', rfl, e⟩
 ·exact ⟨none, 0, by rw [e]; exact c4, .inl ⟨by rw [e]; rfl, e⟩⟩
 ·exact ⟨_, _, c4, .inr ⟨g', cap', rfl, e⟩⟩
set_option maxHeartbeats 400000
theorem look_begins {w : World} {L H : Nat} {S : List Sec} {s : Sec} {b off cap g cc : Nat} {l : List Ins} (h : Look w L H S s b off cap g cc l) (t : Int) (hl : l.length ≤ 120) :
  Calls Tryz.prog 120 #[.pointer (some ⟨L, 0, none⟩), .int .i64 t] w fun e w' => e = .returned (.bool (beginsB l t)) ∧ Below w.heap.size w w' := by
 obtain ⟨_, _, _, _, _, f5, _, hL⟩ := h.facts
 have HL := hidc h
 clear h
 go_enter Tryz.func120, Tryz.ntmps120
 go_wp2_with fail
 go_loopw [12] (fun i wr => ∃ k : Nat, k ≤ l.length ∧ i = .int .i64 k ∧ (l.take k).all (fun x => !((x.pl : Int) == t)) = true ∧ Below w.heap.size w wr) (fun i _ => l.length - (intOf i).toNat)
 case atStart => exact ⟨0, Nat.zero_le _, rfl, by simp, Below.refl _ _⟩
 case round =>
  obtain ⟨k, hk, rfl, hall, hbel⟩ := hrel
  have HA := hidc hall
  clear hall
  by_cases hlt : k < l.length
  ·obtain ⟨c0, c1, c2, c3, ⟨va, vc, c4, _⟩, hg⟩ := (HL.out.below hbel).ins k hlt
   have hsz := hbel.size
   by_cases he : (l[k].pl : Int) = t
   ·have HE : Hid (beginsB l t = true) := by
     show beginsB l t = true
     unfold beginsB
     rw [List.any_eq_true]
     exact ⟨l[k], by simp, by simp [he]⟩
    go_wp2_with fail
    go_ret
    exact ⟨ret_bool HE.out.symm, hbel.alloc hsz _⟩
   ·go_wp2_with fail
    go_roundw
    case rel => exact ⟨k + 1, by omega, by go_num, by rw [List.take_succ_eq_append_getElem hlt, List.all_append, HA.out]; simp [he], hbel.alloc hsz _⟩
    case measure => simp [intOf]; omega
  ·go_wp2_with fail
   go_ret
   refine ⟨ret_bool ?_, hbel⟩
   have := HA.out
   rw [List.take_of_length_le (by omega)] at this
   unfold beginsB
   rw [List.any_eq_not_all_not, this]
   rfl
theorem look_mayName {w : World} {L H : Nat} {S : List Sec} {s : Sec} {b off cap g cc : Nat} {l : List Ins} (h : Look w L H S s b off cap g cc l) (x : Ins) (t : Value) :
  Calls Tryz.prog 121 #[.pointer (some ⟨L, 0, none⟩), .agg #[.int .i64 x.op, .int .i64 x.pl, .int .i64 x.nx, .int .i64 x.n, t]] w fun e w' => e = .returned (.bool (mayNameB S x)) ∧ Below w.heap.size w w' := by
 obtain ⟨f0, _, _, _, _, f5, _, hL⟩ := h.facts
 have HL := hidc h
 clear h
 by_cases h1 : x.n < S.length
 ·obtain ⟨_, c1, _, _⟩ := HL.out.secs.at x.n h1
  have hb := HL.out.secs.1
  by_cases h2 : x.op = 20
  ·have HE : Hid (mayNameB S x = true) := by show mayNameB S x = true; simp [mayNameB, h1, h2]
   have h3 : ((x.op : Int) == 20) = true := by simp; omega
   go_enter Tryz.func121, Tryz.ntmps121
   go_wp2_with fail
   go_quiet (fail)
   go_wp2_with fail
   go_quiet (fail)
   go_wp2_with fail
   go_ret
   exact ⟨ret_bool HE.out.symm, bdr (bdr ((Below.refl _ _).alloc (Nat.le_refl _) _) _) _⟩
  ·have HE : Hid (mayNameB S x = (S[x.n].o != 128)) := by
    show mayNameB S x = (S[x.n].o != 128)
    simp [mayNameB, h1, outS_get S x.n h1]
    intro h; exact absurd h h2
   have h3 : ((x.op : Int) == 20) = false := by simp; omega
   go_enter Tryz.func121, Tryz.ntmps121
   go_wp2_with fail
   go_quiet (fail)
   go_wp2_with fail
   go_quiet (fail)
   go_wp2_with fail
   go_ret
   exact ⟨ret_bool HE.out.symm, bdr (bdr ((Below.refl _ _).alloc (Nat.le_refl _) _) _) _⟩
 ·have HE : Hid (mayNameB S x = false) := by show mayNameB S x = false; simp [mayNameB, h1]
  go_enter Tryz.func121, Tryz.ntmps121
  go_wp2_with fail
  go_quiet (fail)
  go_wp2_with fail
  go_ret
  exact ⟨ret_bool HE.out.symm, bdr ((Below.refl _ _).alloc (Nat.le_refl _) _) _⟩
theorem look_returns {w : World} {L H : Nat} {S : List Sec} {s : Sec} {b off cap g cc : Nat} {l : List Ins} (h : Look w L H S s b off cap g cc l) (x : Ins) (t : Value) (hx : x.op = 20 → x.n < S.length) :
  Calls Tryz.prog 123 #[.pointer (some ⟨L, 0, none⟩), .agg #[.int .i64 x.op, .int .i64 x.pl, .int .i64 x.nx, .int .i64 x.n, t]] w fun e w' => e = .returned (.bool (returnsB S x)) ∧ Below w.heap.size w w' := by
 obtain ⟨f0, _, _, _, _, f5, _, hL⟩ := h.facts
 have HL := hidc h
 clear h
 by_cases h2 : x.op = 20
 ·have h1 := hx h2
  obtain ⟨_, c1, _, _⟩ := HL.out.secs.at x.n h1
  have hb := HL.out.secs.1
  have HE : Hid (returnsB S x = (S[x.n].o != 128)) := by
   show returnsB S x = (S[x.n].o != 128)
   simp [returnsB, h2, outS_get S x.n h1]
  have h3 : ((x.op : Int) == 20) = true := by simp; omega
  have h4 : ((x.op : Int) == 19) = false := by simp; omega
  go_enter Tryz.func123, Tryz.ntmps123
  go_wp2_with fail
  go_quiet (fail)
  go_wp2_with fail
  go_ret
  exact ⟨ret_bool HE.out.symm, bdr ((Below.refl _ _).alloc (Nat.le_refl _) _) _⟩
 ·have h3 : ((x.op : Int) == 20) = false := by simp; omega
  by_cases h5 : x.op = 19
  ·have HE : Hid (returnsB S x = true) := by show returnsB S x = true; simp [returnsB, h5]
   have h4 : ((x.op : Int) == 19) = true := by simp; omega
   go_enter Tryz.func123, Tryz.ntmps123
   go_wp2_with fail
   go_quiet (fail)
   go_wp2_with fail
   go_ret
   exact ⟨ret_bool HE.out.symm, bdr ((Below.refl _ _).alloc (Nat.le_refl _) _) _⟩
  ·have HE : Hid (returnsB S x = false) := by show returnsB S x = false; simp [returnsB, h5, h2]
   have h4 : ((x.op : Int) == 19) = false := by simp; omega
   go_enter Tryz.func123, Tryz.ntmps123
   go_wp2_with fail
   go_quiet (fail)
   go_wp2_with fail
   go_ret
   exact ⟨ret_bool HE.out.symm, bdr ((Below.refl _ _).alloc (Nat.le_refl _) _) _⟩
end Go.Proofs.YtdhmandnamajpaaGreatDoor
