/-
  The law 'Round', as walks.
-/
import Derived.Test.YtdhmandnamajpaaWritten
import Derived.Deep.DeepCutAuto
namespace Go.Proofs.Ytdhmandnamajpaa
open Go.RowKit Go.Joins

theorem bytesL_lo (S : List Sec) (d : ByteArray) : 5 ≤ (bytesL S d).length := by simp [bytesL, headsL_length, twoL]; omega
theorem bytesL_hi (S : List Sec) (d : ByteArray) (hf : fitB S d = true) : (bytesL S d).length ≤ 2000 := by
  simp only [fitB, Bool.and_eq_true] at hf
  have h1 := inB_iff.1 hf.1.1
  have h2 := inB_iff.1 hf.2
  have h3 := codesL_length_le S hf.1.2
  simp [bytesL, headsL_length, twoL]
  omega

theorem bytes_back (b : ByteArray) (g off cap : Nat) (w : World) (h : parseE b = 0) (hS : SecsAt w g off (pS b)) :
    Calls Try.prog 10 #[.agg #[.slice (some ⟨g, off, none⟩) (pS b).length cap, .string (pD b)]] w fun e w' => e = .returned (.tuple #[.string b, .int .i64 0]) ∧ Below w.heap.size w w' := by
  obtain ⟨h1, h2⟩ := parse_bytes b h
  have := bytes_yes (pS b) (pD b) g off cap w hS h1
  rw [h2, mkB_data] at this
  exact this

set_option maxHeartbeats 4000000 in
set_option maxRecDepth 100000 in
theorem round_no (b d : ByteArray) (ao : Option Addr) (n cap : Nat) (w : World) (C : World → Prop) (hC : ∀ w w', C w → Below w.heap.size w w' → C w') (hw : C w)
    (hF : ∀ w : World, C w → Calls Try.prog 10 #[.agg #[.slice ao n cap, .string d]] w fun e w' => e = .returned (.tuple #[.string ByteArray.empty, .int .i64 3]) ∧ Below w.heap.size w w') :
    Calls Try.prog 5 #[.string b, .agg #[.slice ao n cap, .string d]] w fun e w' => e = .returned (.bool true) ∧ Below w.heap.size w w' := by
  have HF := hid hF
  have HC : Hid (∀ w', Below w.heap.size w w' → C w') := fun w' h => hC w w' hw h
  clear hF hC hw
  go_enter Try.func5, Try.ntmps5
  go_wp2_with fail
  refine (written_any _).mono ?_
  rintro x w1 ⟨rfl, hb1⟩
  have HX1 := hid (hb1.mono (show w.heap.size + 1 ≤ _ by simp))
  clear hb1
  go_wp2_with fail
  refine (keel_parse b _).mono ?_
  rintro x w2 ⟨sv, rfl, hs2, hb2⟩
  have hz1 : w.heap.size + 1 ≤ w1.heap.size := by have := HX1.out.size; simpa using this
  have HX2 := hid (HX1.out.trans (hb2.mono hz1))
  have hz2 : w.heap.size + 1 ≤ w2.heap.size := by have := HX2.out.size; simpa using this
  obtain ⟨a2, n2, c2, hv2⟩ := hs2.form
  subst hv2
  have HS2 := hid hs2
  clear hs2 hb2
  go_upto_if 26 with (fail)
  go_cut [5] (fun s wx => s = .bool true ∧ Below (w.heap.size + 1) (w.alloc (.cells #[.slice ao n cap, .string d] 24)) wx)
  case first =>
    by_cases hE : parseE b = 0
    · have tE : (parseE b == 0) = true := by simpa using hE
      have HE := hid hE
      obtain ⟨h1, _⟩ := parse_bytes b hE
      rcases HS2.out with ⟨_, h⟩ | ⟨g, off, cap', hv, _, hs⟩
      · rw [h] at h1
        simp [fitB, inB] at h1
      · simp at hv
        obtain ⟨rfl, rfl, rfl⟩ := hv
        have HS := hid hs
        clear hs h1 hE HS2
        go_wp2_with (go_at_call 10; refine (bytes_back b g off c2 _ HE.out (HS.out.alloc _)).mono ?_; rintro e w3 ⟨rfl, hb3⟩)
        go_meet
        case rel => exact ⟨rfl, (HX2.out.alloc hz2 _).trans (hb3.mono (by simp; omega))⟩
    · have tE : (parseE b == 0) = false := by simpa using hE
      have hD : pD b = ByteArray.empty := by simp [pD, hE]
      have hS : pS b = [] := by simp [pS, hE]
      have hn2 : n2 = 0 := by
        have := HS2.out
        rw [hS] at this
        rcases this with ⟨h, _⟩ | ⟨_, _, _, h, _⟩
        · simp at h; exact h.2.1
        · simp at h; exact h.2.1
      subst hn2
      clear hE hS HS2
      go_wp2
      go_meet
      case rel => exact ⟨rfl, HX2.out.alloc hz2 _⟩
  case rest =>
    obtain ⟨rfl, hbx⟩ := hcut
    have q0 : wc.cell? ⟨w.heap.size, 0, none⟩ = some (.slice ao n cap) := by rw [(bcell hbx).1 _ _ (by omega)]; simp
    have q1 : wc.cell? ⟨w.heap.size, 1, none⟩ = some (.string d) := by rw [(bcell hbx).1 _ _ (by omega)]; simp
    have HBX : Hid (Below w.heap.size w wc) := ((Below.refl _ _).alloc (Nat.le_refl _) _).trans (hbx.mono (by omega))
    clear hbx HX1 HX2 HS2
    go_wp2_with (go_at_call 10; refine (HF.out _ (HC.out _ HBX.out)).mono ?_; rintro e w4 ⟨rfl, hb4⟩)
    go_ret
    exact ⟨rfl, HBX.out.trans (hb4.mono HBX.out.size)⟩

set_option maxHeartbeats 4000000 in
set_option maxRecDepth 100000 in
theorem round_yes (b d : ByteArray) (S : List Sec) (g0 off0 cap : Nat) (w : World) (hS : SecsAt w g0 off0 S) (hf : fitB S d = true) :
    Calls Try.prog 5 #[.string b, .agg #[.slice (some ⟨g0, off0, none⟩) S.length cap, .string d]] w fun e w' => e = .returned (.bool true) ∧ Below w.heap.size w w' := by
  have HS0 := hid hS
  have HFT := hid hf
  have hg0 := hS.1
  have hl6 : S.length ≤ 6 := by
    simp only [fitB, Bool.and_eq_true] at hf
    have := inB_iff.1 hf.1.1
    omega
  clear hS hf
  go_enter Try.func5, Try.ntmps5
  go_wp2_with fail
  refine (written_any _).mono ?_
  rintro x w1 ⟨rfl, hb1⟩
  have HX1 := hid (hb1.mono (show w.heap.size + 1 ≤ _ by simp))
  clear hb1
  go_wp2_with fail
  refine (keel_parse b _).mono ?_
  rintro x w2 ⟨sv, rfl, hs2, hb2⟩
  have hz1 : w.heap.size + 1 ≤ w1.heap.size := by have := HX1.out.size; simpa using this
  have HX2 := hid (HX1.out.trans (hb2.mono hz1))
  have hz2 : w.heap.size + 1 ≤ w2.heap.size := by have := HX2.out.size; simpa using this
  obtain ⟨a2, n2, c2, hv2⟩ := hs2.form
  subst hv2
  have HS2 := hid hs2
  clear hs2 hb2
  go_upto_if 26 with (fail)
  go_cut [5] (fun s wx => s = .bool true ∧ Below (w.heap.size + 1) (w.alloc (.cells #[.slice (some ⟨g0, off0, none⟩) S.length cap, .string d] 24)) wx)
  case first =>
    by_cases hE : parseE b = 0
    · have tE : (parseE b == 0) = true := by simpa using hE
      have HE := hid hE
      obtain ⟨h1, _⟩ := parse_bytes b hE
      rcases HS2.out with ⟨_, h⟩ | ⟨g, off, cap', hv, _, hs⟩
      · rw [h] at h1
        simp [fitB, inB] at h1
      · simp at hv
        obtain ⟨rfl, rfl, rfl⟩ := hv
        have HS := hid hs
        clear hs h1 hE HS2
        go_wp2_with (go_at_call 10; refine (bytes_back b g off c2 _ HE.out (HS.out.alloc _)).mono ?_; rintro e w3 ⟨rfl, hb3⟩)
        go_meet
        case rel => exact ⟨rfl, (HX2.out.alloc hz2 _).trans (hb3.mono (by simp; omega))⟩
    · have tE : (parseE b == 0) = false := by simpa using hE
      have hD : pD b = ByteArray.empty := by simp [pD, hE]
      have hS : pS b = [] := by simp [pS, hE]
      have hn2 : n2 = 0 := by
        have := HS2.out
        rw [hS] at this
        rcases this with ⟨h, _⟩ | ⟨_, _, _, h, _⟩
        · simp at h; exact h.2.1
        · simp at h; exact h.2.1
      subst hn2
      clear hE hS HS2
      go_wp2
      go_meet
      case rel => exact ⟨rfl, HX2.out.alloc hz2 _⟩
  case rest =>
    obtain ⟨rfl, hbx⟩ := hcut
    have q0 : wc.cell? ⟨w.heap.size, 0, none⟩ = some (.slice (some ⟨g0, off0, none⟩) S.length cap) := by rw [(bcell hbx).1 _ _ (by omega)]; simp
    have q1 : wc.cell? ⟨w.heap.size, 1, none⟩ = some (.string d) := by rw [(bcell hbx).1 _ _ (by omega)]; simp
    have HXC := hid hbx
    have HSC := hid ((HS0.out.alloc (.cells #[.slice (some ⟨g0, off0, none⟩) S.length cap, .string d] 24)).below (B := w.heap.size + 1) (by omega) hbx)
    have hzc : w.heap.size + 1 ≤ wc.heap.size := by have := hbx.size; simpa using this
    clear hbx HX1 HX2 HS2
    obtain ⟨r, hr⟩ : ∃ r, r = mkB (bytesL S d) := ⟨_, rfl⟩
    have hrsz : r.size = (bytesL S d).length := by rw [hr, mkB_size]
    have hlo := bytesL_lo S d
    have hhi := bytesL_hi S d HFT.out
    have hr1 : 1 ≤ r.size := by omega
    have hr2 : r.size ≤ 2000 := by omega
    have hne : r.toList.isEmpty = false := by
      rw [ByteArray.toList_eq, List.isEmpty_eq_false_iff]
      intro hnil
      have h0 : r.size = r.data.toList.length := by simp
      rw [hnil] at h0
      have h1 : r.size = 0 := h0
      omega
    have HR := hid hr
    have HRS := hid hrsz
    clear hr hrsz hlo hhi
    go_wp2_with fail
    refine (bytes_yes S d g0 off0 cap _ HSC.out HFT.out).mono ?_
    rw [← HR.out]
    rintro x w4 ⟨rfl, hb4⟩
    have HX4 := hid (HXC.out.trans (hb4.mono hzc))
    have HS4 := hid (HSC.out.below (B := wc.heap.size) HSC.out.1 hb4)
    have hz4 : w.heap.size + 1 ≤ w4.heap.size := by have := HX4.out.size; simpa using this
    clear hb4 q0 q1
    go_wp2_with fail
    rw [HR.out]
    refine (parse_ok S d _ HFT.out).mono ?_
    rw [← HR.out]
    rintro x w5 ⟨sv, rfl, hs5, hb5⟩
    have hSne : S ≠ [] := fun h => by
      have := HFT.out
      rw [h] at this
      simp [fitB, inB] at this
    rcases hs5 with ⟨_, h⟩ | ⟨g5, off5, cap5, hv5, _, hs5⟩
    · exact absurd h hSne
    subst hv5
    have HX5 := hid (HX4.out.trans (hb5.mono hz4))
    have HS5 := hid (HS4.out.below (B := w4.heap.size) HS4.out.1 hb5)
    have HQ5 := hid hs5
    have hg5 := hs5.1
    have hg05 := HS5.out.1
    have hz5 : w.heap.size + 1 ≤ w5.heap.size := by have := HX5.out.size; simpa using this
    clear hb5 hs5 hSne
    go_wp2_with fail
    refine (parse_more S d 0 _ _ HFT.out (by rw [HR.out, append_list])).mono ?_
    rintro x w6 ⟨a6, c6, rfl, hb6⟩
    have HX6 := hid ((HX5.out.alloc hz5 (.cells #[.slice (some ⟨g5, off5, none⟩) S.length cap5, .string d] 24)).trans (hb6.mono (by simp; omega)))
    have HS6 := hid ((HS5.out.alloc (.cells #[.slice (some ⟨g5, off5, none⟩) S.length cap5, .string d] 24)).below (B := w5.heap.size + 1) (by omega) (hb6.mono (by simp)))
    have HQ6 := hid ((HQ5.out.alloc (.cells #[.slice (some ⟨g5, off5, none⟩) S.length cap5, .string d] 24)).below (B := w5.heap.size + 1) (by omega) (hb6.mono (by simp)))
    have e60 := hid ((bcell hb6).1 w5.heap.size 0 (by simp))
    have e61 := hid ((bcell hb6).1 w5.heap.size 1 (by simp))
    have hz6 : w.heap.size + 1 ≤ w6.heap.size := by have := HX6.out.size; simpa using this
    have hz56 : w5.heap.size < w6.heap.size := by have := hb6.size; simp at this; omega
    clear hb6
    go_wp2_with fail
    refine (parse_less S d _ _ HFT.out (by rw [ext_list, HRS.out, HR.out, mkB_list, List.drop_zero, Nat.sub_zero])).mono ?_
    rintro x w7 ⟨a7, c7, rfl, hb7⟩
    have HX7 := hid ((HX6.out.alloc hz6 (.cells #[.slice a6 0 c6, .string ByteArray.empty] 24)).trans (hb7.mono (by simp; omega)))
    have hg6 := HS6.out.1
    have hq6 := HQ6.out.1
    have HS7 := hid ((HS6.out.alloc (.cells #[.slice a6 0 c6, .string ByteArray.empty] 24)).below (B := w6.heap.size + 1) (by omega) (hb7.mono (by simp)))
    have HQ7 := hid ((HQ6.out.alloc (.cells #[.slice a6 0 c6, .string ByteArray.empty] 24)).below (B := w6.heap.size + 1) (by omega) (hb7.mono (by simp)))
    have hz7 : w.heap.size + 1 ≤ w7.heap.size := by have := HX7.out.size; simpa using this
    have hz57 : w5.heap.size < w7.heap.size := by have := hb7.size; simp at this; omega
    have p0 : w7.cell? ⟨w5.heap.size, 0, none⟩ = some (.slice (some ⟨g5, off5, none⟩) S.length cap5) := by
      rw [(bcell hb7).1 _ _ (by simp; omega), World.cell?_alloc_past _ _ _ hz56, e60.out]; simp
    have p1 : w7.cell? ⟨w5.heap.size, 1, none⟩ = some (.string d) := by
      rw [(bcell hb7).1 _ _ (by simp; omega), World.cell?_alloc_past _ _ _ hz56, e61.out]; simp
    have q0 : w7.cell? ⟨w.heap.size, 0, none⟩ = some (.slice (some ⟨g0, off0, none⟩) S.length cap) := by rw [(bcell HX7.out).1 _ _ (by omega)]; simp
    have q1 : w7.cell? ⟨w.heap.size, 1, none⟩ = some (.string d) := by rw [(bcell HX7.out).1 _ _ (by omega)]; simp
    have hwz7 : w.heap.size < w7.heap.size := by omega
    clear hb7 e60 e61
    go_wp2
    go_loopw [18] (fun i wr => ∃ k q : Nat, k ≤ S.length ∧ i = .int .i64 k ∧ wr = (w7.alloc (.cells #[.slice a7 0 c7, .string ByteArray.empty] 24)).drewN q) (fun i _ => S.length - (intOf i).toNat)
    case atStart => exact ⟨0, 0, Nat.zero_le _, rfl, rfl⟩
    case round =>
      obtain ⟨k, q, hk, rfl, rfl⟩ := hrel
      by_cases hlt : k < S.length
      · obtain ⟨x0, x1, x2, x3⟩ := (HS7.out.alloc (.cells #[.slice a7 0 c7, .string ByteArray.empty] 24)).at k hlt
        obtain ⟨y0, y1, y2, y3⟩ := (HQ7.out.alloc (.cells #[.slice a7 0 c7, .string ByteArray.empty] 24)).at k hlt
        have z0 : (0 : Int) ≤ (k : Int) := by omega
        have z1 : (k : Int) < (S.length : Int) := by omega
        go_wp2
        go_quiet (fail)
        go_wp2
        go_roundw
        case rel => exact ⟨k + 1, _, by omega, by go_num, rfl⟩
        case measure => simp [intOf]; omega
      · go_wp2
        go_ret
        exact ⟨rfl, (((Below.refl _ _).alloc (Nat.le_refl _) _).trans ((HX7.out.alloc hz7 _).mono (by omega))).trans (below_draws _ _ _)⟩
end Go.Proofs.Ytdhmandnamajpaa
