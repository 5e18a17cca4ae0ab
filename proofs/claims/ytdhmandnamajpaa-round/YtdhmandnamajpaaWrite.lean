/-
  Write: the bytes of a container.
-/
import Derived.Test.YtdhmandnamajpaaAppend
import Derived.Test.YtdhmandnamajpaaRefBytes0
import Derived.Lib.SmallJoins
import Derived.Lib.SlBytesConst
import Derived.Lib.AppendStr
import Derived.ArgAppend
namespace Go.Proofs.Ytdhmandnamajpaa
open Go.RowKit Go.Joins

/-- What does not fit. -/
theorem write_no (n : Nat) (v : Option Addr) (d : ByteArray) (cap : Nat) (w : World)
    (C : World → Prop) (hC : ∀ w w', C w → Below w.heap.size w w' → C w') (hw : C w)
    (hF : ∀ w : World, C w → Calls Try.prog 28 #[.agg #[.slice v n cap, .string d]] w fun e w' => e = .returned (.bool false) ∧ Below w.heap.size w w') :
    Calls Try.prog 17 #[.agg #[.slice v n cap, .string d]] w fun e w' => e = .returned (.tuple #[.string ByteArray.empty, .int .i64 3]) ∧ Below w.heap.size w w' := by
  have HC : Hid (∀ o, C (w.alloc o)) := fun o => hC _ _ hw ((Below.refl _ _).alloc (Nat.le_refl _) o)
  have HF : Hid _ := hF
  clear hF hC hw
  go_enter Try.func17, Try.ntmps17
  go_wp2_with (first | (go_at_call 28; refine (HF.out _ (HC.out _)).mono ?_; rintro e w' ⟨rfl, hb⟩))
  go_ret2
  exact ⟨rfl, ((Below.refl _ _).alloc (Nat.le_refl _) _).trans (hb.mono (by simp))⟩

/-- 'string(b)' of a row that the call owns. -/
theorem conv_own (w : World) (base g n cap : Nat) (l : List UInt8) (h : w.ownsRow base 5 1 (.slice (some ⟨g, 0, none⟩) n cap) n (bV l)) :
    (convert 42 9 (.slice (some ⟨g, 0, none⟩) n cap)).run Try.prog w = .ok (.string (mkB l)) w := by
  have hn : l.length = n := by have := h.1; rw [bV_length] at this; omega
  subst hn
  refine run_convert_bytes_back w 42 9 5 ⟨g, 0, none⟩ cap l Try.underlying42 Try.underlying5 Try.underlying9 (fun j hj => ?_)
  refine h.cells rfl j _ ?_
  simp [bV, hj]

theorem hidw {p : Prop} (h : p) : Hid p := h
theorem ofNat_small (n : Nat) (h : n ≤ 6) : bV [75, 1, UInt8.ofNat n] = [.int .u8 75, .int .u8 1] ++ [.int .u8 (n : Int)] := by
  have h1 : (UInt8.ofNat n).toNat = n := by rw [UInt8.toNat_ofNat']; omega
  simp [bV, h1]

set_option maxHeartbeats 1000000 in
theorem write_yes (S : List Sec) (d : ByteArray) (b off cap : Nat) (w : World) (hfit : fitB S d = true) (hS : SecsAt w b off S)
    (hF : ∀ w : World, SecsAt w b off S → Calls Try.prog 28 #[.agg #[.slice (some ⟨b, off, none⟩) S.length cap, .string d]] w fun e w' => e = .returned (.bool true) ∧ Below w.heap.size w w') :
    Calls Try.prog 17 #[.agg #[.slice (some ⟨b, off, none⟩) S.length cap, .string d]] w fun e w' => e = .returned (.tuple #[.string (mkB (bytesL S d)), .int .i64 0]) ∧ Below w.heap.size w w' := by
  have hfit' := hfit
  simp only [fitB, Bool.and_eq_true, inB_iff] at hfit'
  obtain ⟨⟨hlen, hall⟩, hdat⟩ := hfit'
  have HA : Hid (S.all secB = true) := hall
  have hb := hS.1
  have HS : Hid (SecsAt w b off S) := hS
  have HF : Hid (∀ w : World, SecsAt w b off S → Calls Try.prog 28 #[.agg #[.slice (some ⟨b, off, none⟩) S.length cap, .string d]] w fun e w' => e = .returned (.bool true) ∧ Below w.heap.size w w') := hF
  clear hS hall hF hfit
  obtain ⟨i0, hi, hz0, hz1, hz2⟩ := info_parts Try.info5
  have kc := fun (w : World) (C : Array Value) (n c : Nat) => Lib.run_convert_bytes_const (P := Try.prog) w 42 5 C n c Try.underlying42 Try.underlying5
  have hof : Hid _ := ofNat_small S.length (by omega)
  go_enter Try.func17, Try.ntmps17
  go_wp2_with (first | (go_at_call 28; refine (HF.out _ (HS.out.alloc _)).mono ?_; rintro e w1 ⟨rfl, hb1⟩; have hz : w.heap.size < w1.heap.size := by { have := hb1.size; simp at this; omega }; have q0 : w1.cell? ⟨w.heap.size, 0, none⟩ = some (.slice (some ⟨b, off, none⟩) S.length cap) := by { rw [(bcell hb1).1 _ _ (by simp)]; simp }; have q1 : w1.cell? ⟨w.heap.size, 1, none⟩ = some (.string d) := by { rw [(bcell hb1).1 _ _ (by simp)]; simp }) | (at_builtin; refine wpList_append_grows _ rfl (.tmp 13) (.tmp 18) 42 rfl 5 i0 (.int .u8 0) 1 1 Try.underlying42 hi hz0 hz1 hz2 rfl (by decide) (some ⟨w1.heap.size, 0, none⟩) 2 2 [.int .u8 75, .int .u8 1] rfl ?hnone rfl ?holds ⟨w1.heap.size + 1, 0, none⟩ 1 1 [.int .u8 (S.length : Int)] rfl rfl ?hnews ?hone (by omega) (by unfold maxLen; omega) (by omega) ?_))
  case hnone => intro h; cases h
  case holds =>
    intro a ha j u hj
    cases ha
    match j, hj with
    | 0, hj => simp at hj; subst hj; rw [show (⟨w1.heap.size, 0, none⟩ : Addr).add 0 = ⟨w1.heap.size, 0, none⟩ from rfl, World.cell?_alloc_past _ _ _ (by simp), World.cell?_alloc_mark]; rfl
    | 1, hj => simp at hj; subst hj; rw [show (⟨w1.heap.size, 0, none⟩ : Addr).add 1 = ⟨w1.heap.size, 1, none⟩ from rfl, World.cell?_alloc_past _ _ _ (by simp), World.cell?_alloc_mark]; rfl
    | j + 2, hj => simp at hj
  case hnews =>
    intro j u hj
    match j, hj with
    | 0, hj => simp at hj; subst hj; simp [Addr.add]
    | j + 1, hj => simp at hj
  case hone => intro u hu; simp at hu; subst hu; rfl
  intro v w2 hown hgrow
  have hbx : Below (w.heap.size + 1) (w.alloc (.cells #[.slice (some ⟨b, off, none⟩) S.length cap, .string d] 24)) w2 :=
    (((hb1.mono (by simp)).alloc (by omega) _).alloc (by simp; omega) _).grown hgrow (by simp; omega) (fun k hk => by cases hk)
  have hown0 : w2.ownsRow (w.heap.size + 1) 5 1 v 3 (bV [75, 1, UInt8.ofNat S.length]) := by
    rw [hof.out]
    exact ownsRow_le hown (by simp; omega)
  have p0 : w2.cell? ⟨w.heap.size, 0, none⟩ = some (.slice (some ⟨b, off, none⟩) S.length cap) := by rw [(bcell hbx).1 _ _ (Nat.lt_succ_self _)]; simp
  clear hown hgrow hb1 q0 q1 hz kc hof
  go_wp2
  go_loopw [4, 23] (fun sv i wr => ∃ (k : Nat) (l : List UInt8), k ≤ S.length ∧ i = .int .i64 k ∧ wr.ownsRow (w.heap.size + 1) 5 1 sv (3 + 5 * k) (bV l) ∧ Hid (l = [75, 1, UInt8.ofNat S.length] ++ headsL (S.take k)) ∧
      Below (w.heap.size + 1) (w.alloc (.cells #[.slice (some ⟨b, off, none⟩) S.length cap, .string d] 24)) wr) (fun _ i _ => S.length - (intOf i).toNat)
  case atStart => exact ⟨0, _, Nat.zero_le _, rfl, hown0, rfl, hbx⟩
  case round =>
    clear hbx hown0 p0
    obtain ⟨k, l, hk, rfl, hown, EL, hbel⟩ := hrel
    have hsz : w.heap.size + 1 ≤ wr.heap.size := by have := hbel.size; simpa using this
    have p0 : wr.cell? ⟨w.heap.size, 0, none⟩ = some (.slice (some ⟨b, off, none⟩) S.length cap) := by rw [(bcell hbel).1 _ _ (Nat.lt_succ_self _)]; simp
    have p1 : wr.cell? ⟨w.heap.size, 1, none⟩ = some (.string d) := by rw [(bcell hbel).1 _ _ (Nat.lt_succ_self _)]; simp
    by_cases hlt : k < S.length
    · obtain ⟨c0, c1, c2, c3⟩ := (SecsAt.below (HS.out.alloc _) (Nat.lt_succ_of_lt hb) hbel).at k hlt
      have hsec := (secB_iff S[k]).1 (List.all_eq_true.1 HA.out S[k] (by simp))
      obtain ⟨h1, h2, h3, h4, h5⟩ := hsec
      have HO : Hid (wr.ownsRow (w.heap.size + 1) 5 1 u4 (3 + 5 * k) (bV l)) := hown
      clear hown
      go_wp2_with (at_builtin; refine wpList_append_lies _ rfl (.tmp 27) (.tmp 37) 42 rfl (w.heap.size + 1) 5 i0 (.int .u8 0) 1 1 Try.underlying42 hi hz0 hz1 hz2 rfl (by decide) _ (3 + 5 * k) (bV l) rfl ((HO.out.alloc _).alloc _) ⟨wr.heap.size + 1, 0, none⟩ 3 3 [.int .u8 S[k].i, .int .u8 S[k].o, .int .u8 S[k].m] rfl rfl ?hnews ?hone (by decide) (by unfold maxLen; omega) (by omega) (by simp; omega) _ rfl ?_)
      case hnews =>
        intro j u hj
        match j, hj with
        | 0, hj => simp at hj; subst hj; simp [Addr.add]
        | 1, hj => simp at hj; subst hj; simp [Addr.add]
        | 2, hj => simp at hj; subst hj; simp [Addr.add]
        | j + 3, hj => simp at hj
      case hone => intro u hu; simp at hu; rcases hu with rfl | rfl | rfl <;> rfl
      intro g cap1 w3 hown1 hgrow1 hat hlt3
      have hs3 : w3.cell? ⟨wr.heap.size, 3, none⟩ = some (.string S[k].code) := by
        rw [hgrow1.cell_far ⟨wr.heap.size, 3, none⟩ (by simp; omega) (fun e => Nat.lt_irrefl _ (HO.out.lt _ e.symm).2)]
        simp
      have HO1 : Hid (w3.ownsRow (w.heap.size + 1) 5 1 (.slice (some ⟨g, 0, none⟩) (3 + 5 * k + 3) cap1) (3 + 5 * k + 3) (bV (l ++ [oneL S[k].i, oneL S[k].o, oneL S[k].m]))) := by
        have e3 : bV [oneL S[k].i, oneL S[k].o, oneL S[k].m] = [.int .u8 S[k].i, .int .u8 S[k].o, .int .u8 S[k].m] := by
          simp only [bV, List.map_cons, List.map_nil]
          rw [bV_oneL (by omega) (by omega), bV_oneL (by omega) (by omega), bV_oneL (by omega) (by omega)]
        have := hown1
        rw [← e3, ← bV_append] at this
        exact this
      have HB1 : Hid (Below (w.heap.size + 1) (w.alloc (.cells #[.slice (some ⟨b, off, none⟩) S.length cap, .string d] 24)) w3) :=
        ((hbel.alloc (by omega) _).alloc (by simp; omega) _).grown hgrow1 (by simp; omega) (fun j hj => (HO.out.lt j hj).1)
      have hsz3 : w.heap.size + 1 ≤ w3.heap.size := by have := HB1.out.size; simpa using this
      clear hown1 hgrow1 hat hbel p0 p1 c0 c1 c2 c3
      go_wp2_with (go_at_call 29; refine (append_two _ (3 + 5 * k + 3) _ _ (w.heap.size + 1) _ HO1.out (by omega) (by omega) (by omega)).mono ?_; rintro e w4 ⟨g2, cap2, rfl, hown2, hgrow2, _, _⟩)
      go_roundw
      case rel =>
        refine ⟨k + 1, l ++ [oneL S[k].i, oneL S[k].o, oneL S[k].m] ++ twoL S[k].code.size, by omega, by go_num, ?_, ?_, HB1.out.grown hgrow2 (by omega) (fun j hj => (HO1.out.lt j hj).1)⟩
        · rw [show 3 + 5 * (k + 1) = 3 + 5 * k + 3 + 2 from by omega]; exact hown2
        · show l ++ [oneL S[k].i, oneL S[k].o, oneL S[k].m] ++ twoL S[k].code.size = _
          rw [EL.out, take_snoc S k hlt, headsL_snoc]
          simp [headL]
      case measure => simp [intOf]; omega
    · have HO : Hid (wr.ownsRow (w.heap.size + 1) 5 1 u4 (3 + 5 * k) (bV l)) := hown
      clear hown
      go_wp2_with (go_at_call 29; refine (append_two _ (3 + 5 * k) _ _ (w.heap.size + 1) _ HO.out (by omega) (by omega) (by omega)).mono ?_; rintro e w4 ⟨g2, cap2, rfl, hown2, hgrow2, hat2, hlt2⟩; have hbel2 := hbel.grown hgrow2 (by omega) (fun j hj => (HO.out.lt j hj).1); have r0 : w4.cell? ⟨w.heap.size, 0, none⟩ = some (.slice (some ⟨b, off, none⟩) S.length cap) := by { rw [(bcell hbel2).1 _ _ (Nat.lt_succ_self _)]; simp })
      have hkk : k = S.length := by omega
      subst hkk
      rw [List.take_of_length_le (Nat.le_refl _)] at EL
      go_loopw [4, 53] (fun sv i wr => ∃ (k m : Nat) (l : List UInt8), k ≤ S.length ∧ i = .int .i64 k ∧ m ≤ 35 + 120 * k ∧ 3 ≤ m ∧ wr.ownsRow (w.heap.size + 1) 5 1 sv m (bV l) ∧ Hid (l = [75, 1, UInt8.ofNat S.length] ++ headsL S ++ twoL d.size ++ codesL (S.take k)) ∧
          Below (w.heap.size + 1) (w.alloc (.cells #[.slice (some ⟨b, off, none⟩) S.length cap, .string d] 24)) wr) (fun _ i _ => S.length - (intOf i).toNat)
      case atStart => exact ⟨0, 3 + 5 * S.length + 2, l ++ twoL d.size, Nat.zero_le _, rfl, by omega, by omega, hown2, by show l ++ twoL d.size = _; rw [EL.out]; simp [codesL], hbel2⟩
      case round =>
        clear hown2 hbel2 r0 hgrow2 hat2 hlt2 EL HO hbel p0 p1 hsz hlt
        clear hk
        obtain ⟨k, m, l', hk, rfl, hm, hm3, hown, EL, hbel⟩ := hrel
        have hsz : w.heap.size + 1 ≤ wr.heap.size := by have := hbel.size; simpa using this
        have p1 : wr.cell? ⟨w.heap.size, 1, none⟩ = some (.string d) := by rw [(bcell hbel).1 _ _ (Nat.lt_succ_self _)]; simp
        have HO := hidw hown
        clear hown
        by_cases hlt : k < S.length
        · obtain ⟨c0, c1, c2, c3⟩ := (SecsAt.below (HS.out.alloc _) (Nat.lt_succ_of_lt hb) hbel).at k hlt
          have hsec := (secB_iff S[k]).1 (List.all_eq_true.1 HA.out S[k] (by simp))
          obtain ⟨h1, h2, h3, h4, h5⟩ := hsec
          go_wp2_with (at_builtin; refine Lib.wpList_append_own_string _ rfl (.tmp 57) (.tmp 59) 42 9 rfl (w.heap.size + 1) 5 i0 Try.underlying42 Try.underlying9 hi hz0 hz1 hz2 _ m (bV l') rfl (HO.out.alloc _) S[k].code rfl (by unfold maxLen; omega) (by omega) (by simp; omega) ?_; intro v5 w5 hown5 hgrow5 _)
          go_roundw
          case rel =>
            refine ⟨k + 1, m + S[k].code.size, l' ++ S[k].code.data.toList, by omega, by go_num, by omega, by omega, ?_, ?_, (hbel.alloc (by omega) _).grown hgrow5 (by simp; omega) (fun j hj => (HO.out.lt j hj).1)⟩
            · rw [bV_append]; exact hown5
            · show l' ++ S[k].code.data.toList = _
              rw [EL.out, take_snoc S k hlt, codesL_snoc]
              simp
          case measure => simp [intOf]; omega
        · go_wp2_with (at_builtin; refine Lib.wpList_append_own_string _ rfl (.tmp 62) (.tmp 64) 42 9 rfl (w.heap.size + 1) 5 i0 Try.underlying42 Try.underlying9 hi hz0 hz1 hz2 _ m (bV l') rfl HO.out d rfl (by unfold maxLen; omega) (by omega) (by omega) ?_; intro v5 w5 hown5 hgrow5 _; obtain ⟨g5, cap5, hv5, _, _⟩ := hown5.form (by omega); subst hv5; have kconv := conv_own w5 (w.heap.size + 1) g5 (m + d.size) cap5 (l' ++ d.data.toList) (by rw [bV_append]; exact hown5); have HG5 := hidw hgrow5; have EE := hidw hown5.1; clear hgrow5 hown5)
          go_ret2
          have hkk : k = S.length := by omega
          subst hkk
          rw [List.take_of_length_le (Nat.le_refl _)] at EL
          refine ⟨?_, ((Below.refl _ _).alloc (Nat.le_refl _) _).trans ((hbel.grown HG5.out (by omega) (fun j hj => (HO.out.lt j hj).1)).mono (by omega))⟩
          have : l' ++ d.data.toList = bytesL S d := by rw [EL.out]; rfl
          rw [← this]
          rfl
end Go.Proofs.Ytdhmandnamajpaa
