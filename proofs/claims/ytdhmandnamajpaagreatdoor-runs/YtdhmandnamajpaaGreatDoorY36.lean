import Derived.Test.YtdhmandnamajpaaGreatDoorY00
import Derived.Test.YtdhmandnamajpaaGreatDoorY21
import Derived.Test.YtdhmandnamajpaaGreatDoorY24
import Derived.Test.YtdhmandnamajpaaGreatDoorY31
import Derived.Test.YtdhmandnamajpaaGreatDoorY33
import Derived.Test.YtdhmandnamajpaaGreatDoorY35
import Derived.Test.YtdhmandnamajpaaGreatDoorY05
import Derived.BigQuiet
namespace Go.Proofs.YtdhmandnamajpaaGreatDoor
open Go.RowKit Go.Joins
set_option maxHeartbeats 1000000
set_option maxRecDepth 8000
structure RanS (w0 w : World) (M B : Nat) (sv : Value) (d : ByteArray) (S : List Sec) (m0 m : MS) (T : List (Nat × Nat × Int)) : Prop where
 rum : RumX w0 w M B sv d m T
 good : m.fin = none → Good S m
 fate : m.fin = none → fateM S d m = fateM S d m0
 done : m.fin.isSome = true → m.fin = (fateM S d m0).fin ∧ m.out = (fateM S d m0).out ∧ m.gas = (fateM S d m0).gas ∧ m.steps = (fateM S d m0).steps
 tells : T ++ tellsM S d m = tellsM S d m0
 outs : m.out.length ≤ m.steps
 gas : m.steps + m.gas ≤ 3000
 told : T.length ≤ m.steps
 size : B ≤ w.heap.size
theorem stepM_sums {S : List Sec} {d : ByteArray} {m : MS} (h1 : m.out.length ≤ m.steps) (h2 : m.steps + m.gas ≤ 3000) :
  (stepM S d m).out.length ≤ (stepM S d m).steps ∧ (stepM S d m).steps + (stepM S d m).gas ≤ 3000 ∧ m.steps + (toldM S m).length ≤ (stepM S d m).steps := by
 unfold stepM toldM
 by_cases hc : m.gas < costT (nowI S m).op
 ·rw [if_pos hc, if_pos hc]
  exact ⟨h1, h2, by simp⟩
 ·rw [if_neg hc, if_neg hc]
  have e := doI_gas S d (nowI S m) (paidM (nowI S m) m)
  have e2 := doI_out S d (nowI S m) (paidM (nowI S m) m)
  rw [e.1, e.2]
  have e3 : (paidM (nowI S m) m).out = m.out := rfl
  have e4 : (paidM (nowI S m) m).steps = m.steps + 1 := rfl
  have e5 : (paidM (nowI S m) m).gas = m.gas - costT (nowI S m).op := rfl
  rw [e3] at e2
  rw [e4, e5]
  have := costT_pos (nowI S m).op
  exact ⟨by omega, by omega, by simp⟩
theorem tells_told {S : List Sec} {d : ByteArray} {m : MS} (h : m.fin = none) : tellsM S d m = toldM S m ++ tellsM S d (stepM S d m) := by
 unfold toldM
 by_cases hc : m.gas < costT (nowI S m).op
 ·rw [if_pos hc, tells_empty h hc, tells_done]
  ·rfl
  ·unfold stepM
   rw [if_pos hc]
   rfl
 ·rw [if_neg hc, tells_step h hc]
  rfl
theorem RanS.step {w0 w w' : World} {M B : Nat} {sv : Value} {d : ByteArray} {S : List Sec} {m0 m : MS} {T : List (Nat × Nat × Int)} (hS : Sound S) (h : RanS w0 w M B sv d S m0 m T) (hf : m.fin = none) {e : Ending} (hl : RLike w0 w M B sv d (stepM S d m) (T ++ toldM S m) e w') :
  e = .returned (.tuple #[]) ∧ ∃ m', RanS w0 w' M B sv d S m0 m' (T ++ toldM S m) ∧ (m'.fin.isSome = true ∨ m'.gas < m.gas) ∧ w.heap.size ≤ w'.heap.size := by
 obtain ⟨m', hm', he, hr, hB, hk, hs⟩ := hl
 obtain ⟨a1, a2, a3⟩ := stepM_sums (S := S) (d := d) h.outs h.gas
 have hfate := h.fate hf
 rw [fate_step hf] at hfate
 have ht := h.tells
 rw [tells_told hf, ← List.append_assoc] at ht
 have htd := h.told
 refine ⟨he, m', ?_, ?_, hs⟩
 ·rcases hm' with rfl | ⟨hfs, fr, rfl⟩
  ·refine ⟨hr, fun q => good_step hS (h.good hf) q, fun _ => hfate, fun q => ?_, ht, a1, a2, by rw [List.length_append]; omega, hB⟩
   rw [← hfate, fate_done q]
   exact ⟨rfl, rfl, rfl, rfl⟩
  ·refine ⟨hr, fun q => ?_, fun q => ?_, fun q => ?_, ?_, a1, a2, by rw [List.length_append]; show _ ≤ (stepM S d m).steps; omega, hB⟩
   ·have q' : (stepM S d m).fin = none := q
    rw [q'] at hfs
    cases hfs
   ·have q' : (stepM S d m).fin = none := q
    rw [q'] at hfs
    cases hfs
   ·rw [← hfate, fate_done hfs]
    exact ⟨rfl, rfl, rfl, rfl⟩
   ·rw [tells_done hfs] at ht
    rw [tells_done (show ({ stepM S d m with fr := fr } : MS).fin.isSome = true from hfs)]
    exact ht
 ·rcases hm' with rfl | ⟨hfs, fr, rfl⟩
  ·cases hfin : (stepM S d m).fin with
   | none => exact .inr (stepM_gas S d m hfin).1
   | some v => exact .inl rfl
  ·exact .inl hfs
def leftR (w : World) (M : Nat) : Nat := match w.cell? ⟨M, 23, none⟩ with
 | some (.bool true) => 0
 | _ => match w.cell? ⟨M, 27, none⟩ with
  | some (.int _ g) => g.toNat + 1
  | _ => 1
theorem leftR_eq {w0 w : World} {M B : Nat} {sv : Value} {d : ByteArray} {m : MS} {T : List (Nat × Nat × Int)} (h : RumX w0 w M B sv d m T) : leftR w M = if m.fin.isSome then 0 else m.gas + 1 := by
 obtain ⟨V, h⟩ := h
 unfold leftR
 rw [h.c23, h.c27]
 cases m.fin.isSome <;> simp
def RanPost (w : World) (b : ByteArray) (gas : Int) : Ending → World → Prop := fun x w' => Below w.heap.size w w' ∧
 ((∃ e, NoRun b gas e ∧ x = .returned (.tuple #[.pointer none, .int .i64 e])) ∨
  (HasRun b gas ∧ ∃ M w0 B sv m T, x = .returned (.tuple #[.pointer (some ⟨M, 0, none⟩), .int .i64 0]) ∧ w.heap.size ≤ M ∧ w.heap.size ≤ B ∧ RumX w0 w' M B sv (pD b) m T ∧ B ≤ w'.heap.size ∧
   m.out = outM (fateB b gas) ∧ endOf m = endOf (fateB b gas) ∧ m.gas = (fateB b gas).gas ∧ m.steps = (fateB b gas).steps ∧ T = tellsM (pS b) (pD b) (startM gas.toNat)))
theorem ref_parse (b : ByteArray) (w : World) : Calls Tryz.prog 34 #[.string b] w (Parsed b w) := by
 cases hm : magicB b with
 | true =>
  have hE : parseE b = 1 := by simp [parseE, hm]
  refine (refParse_magic b w hm).mono ?_
  rintro x w' ⟨rfl, hb⟩
  refine ⟨.slice none 0 0, ?_, .inl ⟨rfl, by simp [pS, hE]⟩, hb⟩
  simp [hE, pD]
 | false =>
  by_cases he : er b 2 1 (inB 1 6 (num1 b 2 : Int)) = 0
  ·obtain ⟨h3, hin⟩ := er_zero he
   have hi := inB_iff.1 hin
   have hE : parseE b = bodyE b (num1 b 2) := by simp [parseE, hm, he]
   refine (refParse_body b w (num1 b 2) hm rfl (by omega) (by omega) (by omega)).mono ?_
   rintro x w' ⟨sv, dat, e, rfl, h1, h2, h3, hb⟩
   by_cases z : e = 0
   ·obtain ⟨y1, y2⟩ := h2 z
    have hz : parseE b = 0 := by rw [hE, ← h1]; exact z
    refine ⟨sv, ?_, ?_, hb⟩
    ·rw [y1, z, hz]; simp [pD, hz]
    ·simpa [pS, hz] using y2
   ·obtain ⟨y1, y2⟩ := h3 z
    have hz : ¬ parseE b = 0 := by rw [hE, ← h1]; exact z
    refine ⟨sv, ?_, .inl ⟨y1, by simp [pS, hz]⟩, hb⟩
    rw [y2, h1, ← hE]
    simp [pD, hz]
  ·have hE : parseE b = er b 2 1 (inB 1 6 (num1 b 2 : Int)) := by simp [parseE, hm, he]
   have hz : ¬ parseE b = 0 := by rw [hE]; exact he
   refine (refParse_count b w hm he).mono ?_
   rintro x w' ⟨rfl, hb⟩
   refine ⟨.slice none 0 0, ?_, .inl ⟨rfl, by simp [pS, hz]⟩, hb⟩
   rw [← hE]
   simp [pD, hz]
def runA (sv : Value) (d : ByteArray) (gas : Int) : Array Value := #[sv, .string d, .int .i64 0, .int .i64 0, .int .i64 0, .slice none 0 0, .slice none 0 0, .int .i64 0, .int .i64 0, .int .i64 0, .int .i64 0, .int .i64 0, .int .i64 0, .int .i64 0, .int .i64 0, .int .i64 0, .int .i64 0, .int .i64 0, .int .i64 0, .int .i64 0, .int .i64 0, .int .i64 0, .int .i64 0, .bool false, .bool false, .int .i64 0, .slice none 0 0, .int .i64 gas, .int .i64 0, .slice none 0 0]
theorem rum_start {w : World} {M : Nat} {sv : Value} {d : ByteArray} {gas : Nat} (hM : w.heap[M]? = some (.cells (runA sv d gas) 60 (0, 0))) : RumX w w M w.heap.size sv d (startM gas) [] := by
 have e : ∀ i, w.cell? ⟨M, i, none⟩ = (runA sv d gas)[i]? := fun i => cell_of_block hM i
 refine ⟨⟨.slice none 0 0, .slice none 0 0, .slice none 0 0, .slice none 0 0⟩, ⟨_, hM, rfl⟩, by rw [e]; rfl, by rw [e]; rfl, by rw [e]; rfl, by rw [e]; rfl, by rw [e]; rfl, by rw [e]; rfl, by rw [e]; rfl, fun a ha => ?_, by rw [e]; rfl, by rw [e]; rfl, by rw [e]; rfl, by rw [e]; rfl, by rw [e]; rfl, by rw [e]; rfl, by rw [e]; rfl, ⟨rfl, .inl ⟨rfl, rfl⟩⟩, ⟨rfl, .inl ⟨rfl, rfl⟩⟩, ⟨rfl, .inl ⟨rfl, rfl⟩⟩, ⟨rfl, .inl ⟨rfl, rfl⟩⟩, .inl rfl, Kp.refl _ _ _, blt hM, rfl⟩
 rw [e]
 rcases (show a = 0 ∨ a = 1 ∨ a = 2 ∨ a = 3 ∨ a = 4 ∨ a = 5 ∨ a = 6 ∨ a = 7 ∨ a = 8 ∨ a = 9 ∨ a = 10 ∨ a = 11 ∨ a = 12 ∨ a = 13 ∨ a = 14 ∨ a = 15 by omega) with rfl | rfl | rfl | rfl | rfl | rfl | rfl | rfl | rfl | rfl | rfl | rfl | rfl | rfl | rfl | rfl <;> rfl
theorem ref_ran (b : ByteArray) (gas : Int) (w : World) : Calls Tryz.prog 18 #[.string b, .int .i64 gas] w (RanPost w b gas) := by
 go_enter Tryz.func18, Tryz.ntmps18
 go_wp2_with fail
 refine (ref_parse b _).mono ?_
 rintro x w1 ⟨sv, rfl, hs1, hb1⟩
 have HB1 := hidc hb1
 by_cases he : parseE b = 0
 ·obtain ⟨q, off, cap, rfl, hq, hS, hn⟩ := slAt_some hs1 he
  have HS := hidc hS
  have HE := hidc he
  have hqs := hS.1
  clear hs1 hS hb1
  rw [he]
  clear he
  go_wp2_with fail
  refine (ref_check_some (pS b) (pD b) q off cap _ hn (HS.out.alloc _)).mono ?_
  rintro x w2 ⟨f, k, p, rfl, hc, hb2⟩
  have HC := hidc hc
  have hz1 := HB1.out.size
  have HB2 := hidc ((HB1.out.alloc HB1.out.size _).trans (hb2.mono (by simp; omega)))
  have u0 : w2.cell? ⟨w1.heap.size, 0, none⟩ = some (.slice (some ⟨q, off, none⟩) (pS b).length cap) := by rw [(bcell hb2).1 _ _ (by simp)]; simp
  have u1 : w2.cell? ⟨w1.heap.size, 1, none⟩ = some (.string (pD b)) := by rw [(bcell hb2).1 _ _ (by simp)]; simp
  have hs2 : w1.heap.size < w2.heap.size := by have := hb2.size; simp at this; omega
  have HS2 := hidc ((HS.out.alloc (.cells #[.slice (some ⟨q, off, none⟩) (pS b).length cap, .string (pD b)] 40)).below (by simp; omega) hb2)
  clear hc hb2
  by_cases hf : f = 0
  ·subst hf
   by_cases hg : gas < 0
   ·go_wp2_with fail
    go_ret2
    exact ⟨HB2.out, .inl ⟨18, .inr ⟨HE.out, 0, k, p, HC.out, .inr ⟨rfl, .inl hg, rfl⟩⟩, rfl⟩⟩
   ·by_cases hg3 : 3000 < gas
    ·go_wp2_with fail
     go_ret2
     exact ⟨HB2.out, .inl ⟨18, .inr ⟨HE.out, 0, k, p, HC.out, .inr ⟨rfl, .inr hg3, rfl⟩⟩, rfl⟩⟩
    ·have hg0 : gas = ((gas.toNat : Nat) : Int) := by omega
     have HHAS : Hid (HasRun b gas) := ⟨HE.out, ⟨k, p, HC.out⟩, by omega, by omega⟩
     generalize hgn : gas.toNat = gn at *
     subst hg0
     have HGN := hidc hgn
     clear hgn
     go_wp2_with fail
     have HK3 : Hid ((w2.alloc (.cells (runA (.slice (some ⟨q, off, none⟩) (pS b).length cap) (pD b) (gn : Nat)) 60)).heap[w2.heap.size]? = some (.cells (runA (.slice (some ⟨q, off, none⟩) (pS b).length cap) (pD b) (gn : Nat)) 60 (0, 0))) := heap_alloc_new w2 _
     have HRS : Hid (RanS (w2.alloc (.cells (runA (.slice (some ⟨q, off, none⟩) (pS b).length cap) (pD b) (gn : Nat)) 60)) (w2.alloc (.cells (runA (.slice (some ⟨q, off, none⟩) (pS b).length cap) (pD b) (gn : Nat)) 60)) w2.heap.size (w2.alloc (.cells (runA (.slice (some ⟨q, off, none⟩) (pS b).length cap) (pD b) (gn : Nat)) 60)).heap.size (.slice (some ⟨q, off, none⟩) (pS b).length cap) (pD b) (pS b) (startM gn) (startM gn) []) :=
      ⟨rum_start HK3.out, fun _ => good_start HHAS.out.sound gn, fun _ => rfl, fun q => (by cases q), rfl, Nat.le_refl _, by show 0 + gn ≤ 3000; omega, Nat.le_refl _, Nat.le_refl _⟩
     have HS3 := hidc (HS2.out.alloc (.cells (runA (.slice (some ⟨q, off, none⟩) (pS b).length cap) (pD b) (gn : Nat)) 60))
     have HB3 := hidc (HB2.out.alloc HB2.out.size (.cells (runA (.slice (some ⟨q, off, none⟩) (pS b).length cap) (pD b) (gn : Nat)) 60))
     have hs3 : (w2.alloc (.cells (runA (.slice (some ⟨q, off, none⟩) (pS b).length cap) (pD b) (gn : Nat)) 60)).heap.size = w2.heap.size + 1 := by simp
     have hwsz := HB2.out.size
     dsimp only [runA] at HRS HS3 HB3 hs3
     go_loopw [40] (fun _ wk => ∃ (mk : MS) (T : List (Nat × Nat × Int)), Hid (RanS (w2.alloc (.cells (runA (.slice (some ⟨q, off, none⟩) (pS b).length cap) (pD b) (gn : Nat)) 60)) wk w2.heap.size (w2.heap.size + 1) (.slice (some ⟨q, off, none⟩) (pS b).length cap) (pD b) (pS b) (startM gn) mk T)) (fun _ wk => leftR wk w2.heap.size)
     case atStart => exact ⟨_, _, by have := HRS.out; rw [hs3] at this; exact this⟩
     case round =>
      obtain ⟨mk, T, HR⟩ := hrel
      clear HRS
      obtain ⟨V, hq⟩ := HR.out.rum
      have c23 := hq.c23
      have c24 := hq.c24
      have c25 := hq.c25
      have c26 := hq.c26
      have f26 := hq.froz 26
      have hMr := hq.size
      have HQ := hidc hq
      clear hq
      cases hfin : mk.fin.isSome with
      | false =>
       rw [hfin] at c23
       have hnone : mk.fin = none := by simpa using hfin
       have HNONE := hidc hnone
       clear hnone hfin
       go_wp2_with fail
       refine (run_step HR.out.rum HR.out.size HHAS.out.sound (HR.out.good HNONE.out) q off cap rfl HS3.out (by omega) (by omega) (by have := HR.out.outs; have := HR.out.gas; omega) (by have := HR.out.told; have := HR.out.gas; omega) (by have := HR.out.gas; omega) (by have := HR.out.gas; omega)).mono ?_
       intro e wn hl
       obtain ⟨rfl, m2, hr2, hless, hsz2⟩ := HR.out.step HHAS.out.sound HNONE.out hl
       have HR2 := hidc hr2
       have HL : Hid (leftR wn w2.heap.size < leftR wr w2.heap.size) := by
        show leftR wn w2.heap.size < leftR wr w2.heap.size
        rw [leftR_eq hr2.rum, leftR_eq HR.out.rum, HNONE.out]
        rcases hless with h | h
        ·rw [h]; simp
        ·cases m2.fin.isSome <;> simp <;> omega
       clear hl hr2 hless
       go_wp2_with fail
       go_roundw
       case rel => exact ⟨m2, _, HR2.out⟩
       case measure => exact HL.out
      | true =>
       rw [hfin] at c23
       obtain ⟨v, hv⟩ := Option.isSome_iff_exists.1 hfin
       have hd := HR.out.done hfin
       have htl := HR.out.tells
       rw [tells_done hfin, List.append_nil] at htl
       have hev : endOf mk = v := by unfold endOf; rw [hv]; rfl
       have HFB : Hid (fateM (pS b) (pD b) (startM gn) = fateB b gn) := by
        show fateM (pS b) (pD b) (startM gn) = fateB b gn
        unfold fateB
        rw [HGN.out]
       rw [HFB.out] at hd
       have HBF := hidc (HB3.out.trans ((HQ.out.kp.below (B' := w2.heap.size) (by omega) (Nat.le_refl _)).mono hwsz))
       have HEE : Hid (endOf mk = endOf (fateB b gn)) := by
        show endOf mk = endOf (fateB b gn)
        unfold endOf
        rw [hd.1]
       have HD := hidc hd
       have HTL : Hid (T = tellsM (pS b) (pD b) (startM (gn : Int).toNat)) := by
        show T = tellsM (pS b) (pD b) (startM (gn : Int).toNat)
        rw [HGN.out]; exact htl
       have HV := hidc hv
       have HSZ := hidc HR.out.size
       rw [hev] at c25
       clear hfin hd htl hev hv
       by_cases hv0 : v = 0
       ·subst hv0
        go_wp2_with fail
        go_ret2
        refine ⟨HBF.out, .inr ⟨HHAS.out, _, _, _, _, mk, T, rfl, by omega, by omega, ⟨V, HQ.out⟩, HSZ.out, ?_, HEE.out, HD.out.2.2.1, HD.out.2.2.2, HTL.out⟩⟩
        unfold outM
        rw [← HD.out.1, HV.out, if_pos rfl]
        exact HD.out.2.1
       ·have hv1 : ((v : Int) == 0) = false := by rw [beq_eq_false_iff_ne]; omega
        have HCU := hidc (HQ.out.cut_out (.slice none 0 0) [] ⟨rfl, .inl ⟨rfl, rfl⟩⟩ (.inl rfl))
        have HV0 := hidc hv0
        clear hv0
        go_wp2_with fail
        go_ret2
        refine ⟨HBF.out.setCell (by show w.heap.size ≤ w2.heap.size; omega) _, .inr ⟨HHAS.out, _, _, _, _, { mk with out := [] }, T, rfl, by omega, by omega, ⟨_, HCU.out⟩, by simpa [World.setCell] using HSZ.out, ?_, HEE.out, HD.out.2.2.1, HD.out.2.2.2, HTL.out⟩⟩
        unfold outM
        rw [← HD.out.1, HV.out, if_neg (fun e => HV0.out (Option.some.inj e))]
  ·have hf' : ((f : Int) == 0) = false := by rw [beq_eq_false_iff_ne]; omega
   have HF0 := hidc hf
   clear hf
   go_wp2_with fail
   go_ret2
   exact ⟨HB2.out, .inl ⟨f, .inr ⟨HE.out, f, k, p, HC.out, .inl ⟨HF0.out, rfl⟩⟩, rfl⟩⟩
 ·have HE := hidc he
  have he' : (parseE b == 0) = false := by rw [beq_eq_false_iff_ne]; exact he
  have hv : ∃ a n c, sv = .slice a n c := by rcases hs1 with ⟨rfl, _⟩ | ⟨q, off, cap, rfl, _⟩ <;> exact ⟨_, _, _, rfl⟩
  obtain ⟨a1, n1, c1, rfl⟩ := hv
  clear hs1 hb1 he
  go_wp2_with fail
  go_ret2
  exact ⟨HB1.out.alloc HB1.out.size _, .inl ⟨_, .inl ⟨HE.out, rfl⟩, rfl⟩⟩
end Go.Proofs.YtdhmandnamajpaaGreatDoor
namespace Go.Proofs.YtdhmandnamajpaaGreatDoor
open Go.RowKit Go.Joins
set_option maxHeartbeats 1000000
set_option maxRecDepth 4000
theorem same_ints (l : List Nat) (a a' : Option Addr) (c c' B B' : Nat) (w : World) (h : w.ownsRow B 3 1 (.slice a l.length c) l.length (nV l)) (h' : w.ownsRow B' 3 1 (.slice a' l.length c') l.length (nV l)) (hl : l.length ≤ 4000) :
  Calls Tryz.prog 8 #[.slice a l.length c, .slice a' l.length c'] w fun e w' => e = .returned (.bool true) ∧ Below w.heap.size w w' := by
 have hcell : ∀ {B : Nat} {a : Option Addr} {c : Nat}, w.ownsRow B 3 1 (.slice a l.length c) l.length (nV l) → ∀ k (hk : k < l.length), ∃ g, a = some ⟨g, 0, none⟩ ∧ g < w.heap.size ∧ w.cell? ⟨g, k, none⟩ = some (.int .i64 (l[k] : Nat)) := fun h k hk => by
  obtain ⟨g, e1, _, e2, e3⟩ := row_cell h (show (nV l)[k]? = some (.int .i64 (l[k] : Nat)) by simp [nV, hk])
  exact ⟨g, e1, e2, e3⟩
 have H1 := hidc (fun k hk => hcell h k hk)
 have H2 := hidc (fun k hk => hcell h' k hk)
 clear h h' hcell
 go_enter Tryz.func8, Tryz.ntmps8
 go_wp2_with fail
 go_loopw [5] (fun iv wr => ∃ k : Nat, k ≤ l.length ∧ iv = .int .i64 k ∧ Hid (Below w.heap.size w wr)) (fun iv _ => l.length - (intOf iv).toNat)
 case atStart => exact ⟨0, Nat.zero_le _, rfl, Below.refl _ _⟩
 case round =>
  obtain ⟨k, hk, rfl, HB⟩ := hrel
  by_cases hkl : k < l.length
  ·obtain ⟨g, rfl, hg, hc⟩ := H1.out k hkl
   obtain ⟨g', rfl, hg', hc'⟩ := H2.out k hkl
   replace hc := ((bcell HB.out).1 _ _ hg).trans hc
   replace hc' := ((bcell HB.out).1 _ _ hg').trans hc'
   have hsz := HB.out.size
   have hgr : g < wr.heap.size := by omega
   have hgr' : g' < wr.heap.size := by omega
   generalize l[k] = v at *
   have z0 : (0 : Int) ≤ (k : Int) := by omega
   have z1 : (k : Int) < (l.length : Int) := by omega
   go_wp2
   go_quiet (fail)
   go_wp2
   go_roundw
   case rel => exact ⟨k + 1, by omega, by go_num, HB.out.trans ((bdr (Below.refl _ _) _).mono hsz)⟩
   case measure => simp [intOf]; omega
  ·go_wp2
   go_ret
   exact ⟨rfl, HB.out⟩
end Go.Proofs.YtdhmandnamajpaaGreatDoor
namespace Go.Proofs.YtdhmandnamajpaaGreatDoor
open Go.RowKit Go.Joins
set_option maxHeartbeats 1000000
set_option maxRecDepth 8000
def KRan (w : World) (b : ByteArray) (gas : Int) : Ending → World → Prop := fun x w' => Below w.heap.size w w' ∧
 ((∃ e, NoRun b gas e ∧ x = .returned (.tuple #[.agg #[.int .i64 0, .slice none 0 0, .int .i64 0, .int .i64 0], .int .i64 e, .bool true])) ∨
  (HasRun b gas ∧ ∃ oa oc, x = .returned (.tuple #[.agg #[.int .i64 (endOf (fateB b gas) : Nat), .slice oa (outM (fateB b gas)).length oc, .int .i64 ((fateB b gas).gas : Nat), .int .i64 ((fateB b gas).steps : Nat)], .int .i64 0, .bool true]) ∧
   w'.ownsRow w.heap.size 3 1 (.slice oa (outM (fateB b gas)).length oc) (outM (fateB b gas)).length (nV (outM (fateB b gas)))))
theorem ref_Ran (b : ByteArray) (gas : Int) (w : World) : Calls Tryz.prog 7 #[.string b, .int .i64 gas] w (KRan w b gas) := by
 go_enter Tryz.func7, Tryz.ntmps7
 go_wp2_with fail
 refine (ref_ran b gas _).mono ?_
 rintro x w1 ⟨hb1, hx⟩
 have HB1 := hidc ((boxB w (.cells #[.int .i64 0, .slice none 0 0, .int .i64 0, .int .i64 0] 24)).trans (hb1.mono (by simp)))
 have hz1 : w.heap.size + 1 ≤ w1.heap.size := by have := hb1.size; simpa using this
 have kC : w1.heap[w.heap.size]? = some (.cells #[.int .i64 0, .slice none 0 0, .int .i64 0, .int .i64 0] 24 (0, 0)) := (hb1.block _ (by simp)).trans (heap_alloc_new w _)
 have z0 := cell_of_block kC 0
 have z1 := cell_of_block kC 1
 have z2 := cell_of_block kC 2
 have z3 := cell_of_block kC 3
 have y0 := unfrozen_of_block kC 0
 have y1 := unfrozen_of_block kC 1
 have y2 := unfrozen_of_block kC 2
 have y3 := unfrozen_of_block kC 3
 have hwz : w.heap.size < w1.heap.size := by omega
 have HKC := hidc kC
 clear kC hb1
 rcases hx with ⟨e, hno, rfl⟩ | ⟨hhas, M, w0, B, sv, m, T, rfl, hM, hB, hr, hBs, e1, e2, e3, e4, _⟩
 ·have HNO := hidc hno
  clear hno
  go_wp2_with fail
  have hF : ((((w1.setCell ⟨w.heap.size, 0, none⟩ (.int .i64 0)).setCell ⟨w.heap.size, 1, none⟩ (.slice none 0 0)).setCell ⟨w.heap.size, 2, none⟩ (.int .i64 0)).setCell ⟨w.heap.size, 3, none⟩ (.int .i64 0)).heap[w.heap.size]? = some (.cells #[.int .i64 0, .slice none 0 0, .int .i64 0, .int .i64 0] 24 (0, 0)) := block_setCell (block_setCell (block_setCell (block_setCell HKC.out _) _) _) _
  have r0 := cell_of_block hF 0
  have r1 := cell_of_block hF 1
  have r2 := cell_of_block hF 2
  have r3 := cell_of_block hF 3
  refine bodyPost_ret (v := .tuple #[.agg #[.int .i64 0, .slice none 0 0, .int .i64 0, .int .i64 0], .int .i64 e, .bool true]) (by simp only [results, Tryz.results7]; simp [go_sem, r0, r1, r2, r3]) rfl ⟨?_, .inl ⟨_, HNO.out, rfl⟩⟩
  exact (((HB1.out.setCell (Nat.le_refl _) _).setCell (Nat.le_refl _) _).setCell (Nat.le_refl _) _).setCell (Nat.le_refl _) _
 ·have HHAS := hidc hhas
  have hM' : w.heap.size + 1 ≤ M := by simpa using hM
  have hB' : w.heap.size + 1 ≤ B := by simpa using hB
  obtain ⟨V, hq⟩ := hr
  obtain ⟨oa, oc, hov⟩ := row_form hq.out
  have c24 := hq.c24
  have c25 := hq.c25
  have c26 := hq.c26
  have c27 := hq.c27
  have c28 := hq.c28
  rw [hov] at c26
  have hout := hq.out
  rw [hov] at hout
  have hMs := hq.size
  rw [e1] at c26 hout
  rw [e2] at c25
  rw [e3] at c27
  rw [e4] at c28
  obtain ⟨mf, hmf⟩ : ∃ mf, mf = fateB b gas := ⟨_, rfl⟩
  rw [← hmf] at c25 c26 c27 c28 hout
  have HMF := hidc hmf
  have HOUT := hidc (own_mono hout hB')
  have hne : M ≠ w.heap.size := by omega
  clear hhas hq hov hM hB e1 e2 e3 e4 hmf hout hBs
  generalize hen : endOf mf = en at *
  have HEN := hidc hen
  clear hen
  go_wp2_with fail
  refine wp_region_held_drew (S := fun w' => w'.cell? ⟨M, 24, none⟩ = some (.bool false) ∧ w'.cell? ⟨M, 25, none⟩ = some (.int .i64 (en : Nat)) ∧ w'.cell? ⟨M, 26, none⟩ = some (.slice oa (outM mf).length oc) ∧ w'.cell? ⟨M, 27, none⟩ = some (.int .i64 (mf.gas : Nat)) ∧ w'.cell? ⟨M, 28, none⟩ = some (.int .i64 (mf.steps : Nat))) (by kernel_rfl) ⟨c24, c25, c26, c27, c28⟩ (fun hHeld => ?_)
  have HBd := hidc (HB1.out.drew)
  replace z0 : w1.drew.cell? ⟨w.heap.size, 0, none⟩ = some (.int .i64 0) := z0
  replace z1 : w1.drew.cell? ⟨w.heap.size, 1, none⟩ = some (.slice none 0 0) := z1
  replace z2 : w1.drew.cell? ⟨w.heap.size, 2, none⟩ = some (.int .i64 0) := z2
  replace z3 : w1.drew.cell? ⟨w.heap.size, 3, none⟩ = some (.int .i64 0) := z3
  replace y0 : w1.drew.frozen? ⟨w.heap.size, 0, none⟩ = false := y0
  replace y1 : w1.drew.frozen? ⟨w.heap.size, 1, none⟩ = false := y1
  replace y2 : w1.drew.frozen? ⟨w.heap.size, 2, none⟩ = false := y2
  replace y3 : w1.drew.frozen? ⟨w.heap.size, 3, none⟩ = false := y3
  replace hwz : w.heap.size < w1.drew.heap.size := hwz
  have HKD : Hid (w1.drew.heap[w.heap.size]? = some (.cells #[.int .i64 0, .slice none 0 0, .int .i64 0, .int .i64 0] 24 (0, 0))) := HKC.out
  have HOD : Hid (w1.drew.ownsRow (w.heap.size + 1) 3 1 (.slice oa (outM mf).length oc) (outM mf).length (nV (outM mf))) := own_below HOUT.out ((Below.refl _ _).drew)
  clear HKC HOUT HB1 c24 c25 c26 c27 c28 hMs hz1
  generalize w1.drew = wd at *
  refine tk 0 ?va0 rfl ?hya0 hHeld ?resta0
  case hya0 => rintro w ⟨q0, q1, q2, q3, q4⟩; go_simp; try with_reducible rfl
  simp only [Act.put, aA, aB, aC, aD, aE]
  refine tk 1 ?va1 rfl ?hya1 hHeld ?resta1
  case hya1 => rintro w ⟨q0, q1, q2, q3, q4⟩; go_simp; try with_reducible rfl
  simp only [Act.put, aA, aB, aC, aD, aE, aF]
  refine tk 2 ?va2 rfl ?hya2 hHeld ?resta2
  case hya2 => rintro w ⟨q0, q1, q2, q3, q4⟩; go_simp; try with_reducible rfl
  simp only [Act.put, aA, aB, aC, aD, aE, aF]
  refine tk 3 ?va3 rfl ?hya3 hHeld ?resta3
  case hya3 => rintro w ⟨q0, q1, q2, q3, q4⟩; go_simp; try with_reducible rfl
  simp only [Act.put, aA, aB, aC, aD, aE, aF]
  refine tk 4 ?va4 rfl ?hya4 hHeld ?resta4
  case hya4 => rintro w ⟨q0, q1, q2, q3, q4⟩; go_simp; try with_reducible rfl
  simp only [Act.put, aA, aB, aC, aD, aE, aF]
  refine tk 5 ?va5 rfl ?hya5 hHeld ?resta5
  case hya5 => rintro w ⟨q0, q1, q2, q3, q4⟩; go_simp; try with_reducible rfl
  simp only [Act.put, aA, aB, aC, aD, aE, aF]
  refine tk 6 ?va6 rfl ?hya6 hHeld ?resta6
  case hya6 => rintro w ⟨q0, q1, q2, q3, q4⟩; go_simp; try with_reducible rfl
  simp only [Act.put, aA, aB, aC, aD, aE, aF]
  refine tk 7 ?va7 rfl ?hya7 hHeld ?resta7
  case hya7 => rintro w ⟨q0, q1, q2, q3, q4⟩; go_simp; try with_reducible rfl
  simp only [Act.put, aA, aB, aC, aD, aE, aF]
  refine tk 8 ?va8 rfl ?hya8 hHeld ?resta8
  case hya8 => rintro w ⟨q0, q1, q2, q3, q4⟩; go_simp; try with_reducible rfl
  simp only [Act.put, aA, aB, aC, aD, aE, aF]
  refine tk 9 ?va9 rfl ?hya9 hHeld ?resta9
  case hya9 => rintro w ⟨q0, q1, q2, q3, q4⟩; go_simp; try with_reducible rfl
  simp only [Act.put, aA, aB, aC, aD, aE, aF]
  refine rd 10 rfl (fun K hK => ?_)
  simp only [aD, aE, aF]
  go_simp
  refine hK.out _ _ ⟨(set_other _ hne).trans ((set_other _ hne).trans ((set_other _ hne).trans ((set_other _ hne).trans hHeld.1))), (set_other _ hne).trans ((set_other _ hne).trans ((set_other _ hne).trans ((set_other _ hne).trans hHeld.2.1))), (set_other _ hne).trans ((set_other _ hne).trans ((set_other _ hne).trans ((set_other _ hne).trans hHeld.2.2.1))), (set_other _ hne).trans ((set_other _ hne).trans ((set_other _ hne).trans ((set_other _ hne).trans hHeld.2.2.2.1))), (set_other _ hne).trans ((set_other _ hne).trans ((set_other _ hne).trans ((set_other _ hne).trans hHeld.2.2.2.2)))⟩ (fun hHeld => ?_)
  clear hK
  refine tk 11 ?vb11 rfl ?hyb11 hHeld ?restb11
  case hyb11 => rintro w ⟨q0, q1, q2, q3, q4⟩; go_simp; try with_reducible rfl
  simp only [Act.put, aA, aB, aC, aD, aE, aF]
  refine tk 12 ?vb12 rfl ?hyb12 hHeld ?restb12
  case hyb12 => rintro w ⟨q0, q1, q2, q3, q4⟩; go_simp; try with_reducible rfl
  simp only [Act.put, aA, aB, aC, aD, aE, aF]
  refine wpAnyH_done (by kernel_rfl) ?_ _
  clear hHeld
  have hF : ((((wd.setCell ⟨w.heap.size, 0, none⟩ (.int .i64 (en : Nat))).setCell ⟨w.heap.size, 1, none⟩ (.slice oa (outM mf).length oc)).setCell ⟨w.heap.size, 2, none⟩ (.int .i64 (mf.gas : Nat))).setCell ⟨w.heap.size, 3, none⟩ (.int .i64 (mf.steps : Nat))).heap[w.heap.size]? = some (.cells #[.int .i64 (en : Nat), .slice oa (outM mf).length oc, .int .i64 (mf.gas : Nat), .int .i64 (mf.steps : Nat)] 24 (0, 0)) := block_setCell (block_setCell (block_setCell (block_setCell HKD.out _) _) _) _
  have r0 := cell_of_block hF 0
  have r1 := cell_of_block hF 1
  have r2 := cell_of_block hF 2
  have r3 := cell_of_block hF 3
  go_wp2_with fail
  refine bodyPost_ret (v := .tuple #[.agg #[.int .i64 (en : Nat), .slice oa (outM mf).length oc, .int .i64 (mf.gas : Nat), .int .i64 (mf.steps : Nat)], .int .i64 0, .bool true]) (by simp only [results, Tryz.results7]; simp [go_sem, r0, r1, r2, r3]) rfl ⟨?_, .inr ⟨HHAS.out, oa, oc, by rw [← HMF.out, HEN.out], ?_⟩⟩
  ·exact (((HBd.out.setCell (Nat.le_refl _) _).setCell (Nat.le_refl _) _).setCell (Nat.le_refl _) _).setCell (Nat.le_refl _) _
  ·rw [← HMF.out]
   exact own_mono (own_set (own_set (own_set (own_set HOD.out (by omega) _ _) (by omega) _ _) (by omega) _ _) (by omega) _ _) (by omega)
theorem num_walk (e : Int) (w : World) : Calls Tryz.prog 9 #[.int .i64 e] w fun x w' => x = .returned (.int .i64 e) ∧ w' = w := by
 go_enter Tryz.func9, Tryz.ntmps9
 go_wp2
 go_ret
 exact ⟨rfl, rfl⟩
theorem run_few (S : List Sec) (d : ByteArray) : ∀ (f : Nat) (m : MS), m.out.length ≤ m.steps → m.steps + m.gas ≤ 3000 → (runM S d f m).out.length ≤ 3000 := by
 intro f
 induction f with
 | zero => intro m h1 h2; show m.out.length ≤ 3000; omega
 | succ f ih =>
  intro m h1 h2
  unfold runM
  split
  ·omega
  ·obtain ⟨a1, a2, _⟩ := stepM_sums (S := S) (d := d) h1 h2
   exact ih _ a1 a2
theorem out_few (b : ByteArray) (gas : Int) (h : HasRun b gas) : (outM (fateB b gas)).length ≤ 4000 := by
 have h1 := run_few (pS b) (pD b) ((startM gas.toNat).gas + 1) (startM gas.toNat) (Nat.le_refl _) (by show 0 + gas.toNat ≤ 3000; have := h.2.2.2; omega)
 unfold outM
 split
 ·show (runM (pS b) (pD b) ((startM gas.toNat).gas + 1) (startM gas.toNat)).out.length ≤ 4000
  omega
 ·simp
theorem runs_walk (b : ByteArray) (gas : Int) (w : World) (hR : RowsAt w) :
  Calls Tryz.prog 3 #[.string b, .int .i64 gas] w fun x w' => x = .returned (.bool true) ∧ Below w.heap.size w w' := by
 have HR := hidc hR
 have h0 := hR.1
 clear hR
 go_enter Tryz.func3, Tryz.ntmps3
 go_wp2_with fail
 refine (keel_run b gas _ HR.out).mono ?_
 rintro x w1 ⟨hb1, hx⟩
 have HB1 := hidc hb1
 have hz1 := hb1.size
 clear hb1
 rcases hx with ⟨e, hno, rfl⟩ | ⟨hhas, oa, oc, rfl, hown⟩
 ·have HNO := hidc hno
  clear hno
  go_wp2_with fail
  refine (ref_Ran b gas _).mono ?_
  rintro x w2 ⟨hb2, hx2⟩
  have HB2 := hidc ((HB1.out.alloc hz1 _).trans (hb2.mono (by simp; omega)))
  have u0 : w2.cell? ⟨w1.heap.size, 0, none⟩ = some (.int .i64 0) := by rw [(bcell hb2).1 _ _ (by simp)]; simp
  have u1 : w2.cell? ⟨w1.heap.size, 1, none⟩ = some (.slice none 0 0) := by rw [(bcell hb2).1 _ _ (by simp)]; simp
  have u2 : w2.cell? ⟨w1.heap.size, 2, none⟩ = some (.int .i64 0) := by rw [(bcell hb2).1 _ _ (by simp)]; simp
  have u3 : w2.cell? ⟨w1.heap.size, 3, none⟩ = some (.int .i64 0) := by rw [(bcell hb2).1 _ _ (by simp)]; simp
  have hs2 : w1.heap.size < w2.heap.size := by have := hb2.size; simp at this; omega
  clear hb2
  rcases hx2 with ⟨e', hno', rfl⟩ | ⟨hhas, _⟩
  case inr => exact (hhas.not HNO.out).elim
  obtain rfl := HNO.out.unique hno'
  clear hno'
  go_wp2_with fail
  refine (same_ints [] _ _ _ _ _ _ _ ((⟨rfl, .inl ⟨rfl, rfl⟩⟩ : World.ownsRow _ 0 3 1 (.slice none 0 0) 0 (nV []))) ((⟨rfl, .inl ⟨rfl, rfl⟩⟩ : World.ownsRow _ 0 3 1 (.slice none 0 0) 0 (nV []))) (Nat.zero_le _)).mono ?_
  rintro x w3 ⟨rfl, hb3⟩
  have HB3 := hidc ((HB2.out.alloc HB2.out.size _).trans (hb3.mono (by have := HB2.out.size; simp; omega)))
  have hs3 : w2.heap.size < w3.heap.size := by have := hb3.size; simp at this; omega
  have p0 : w3.cell? ⟨w1.heap.size, 0, none⟩ = some (.int .i64 0) := by rw [(bcell hb3).1 _ _ (by simp; omega)]; exact (cell_al _ hs2).trans u0
  have p1 : w3.cell? ⟨w1.heap.size, 1, none⟩ = some (.slice none 0 0) := by rw [(bcell hb3).1 _ _ (by simp; omega)]; exact (cell_al _ hs2).trans u1
  have p2 : w3.cell? ⟨w1.heap.size, 2, none⟩ = some (.int .i64 0) := by rw [(bcell hb3).1 _ _ (by simp; omega)]; exact (cell_al _ hs2).trans u2
  have p3 : w3.cell? ⟨w1.heap.size, 3, none⟩ = some (.int .i64 0) := by rw [(bcell hb3).1 _ _ (by simp; omega)]; exact (cell_al _ hs2).trans u3
  have q0 : w3.cell? ⟨w2.heap.size, 0, none⟩ = some (.int .i64 0) := by rw [(bcell hb3).1 _ _ (by simp)]; simp
  have q1 : w3.cell? ⟨w2.heap.size, 1, none⟩ = some (.slice none 0 0) := by rw [(bcell hb3).1 _ _ (by simp)]; simp
  have q2 : w3.cell? ⟨w2.heap.size, 2, none⟩ = some (.int .i64 0) := by rw [(bcell hb3).1 _ _ (by simp)]; simp
  have q3 : w3.cell? ⟨w2.heap.size, 3, none⟩ = some (.int .i64 0) := by rw [(bcell hb3).1 _ _ (by simp)]; simp
  have hs13 : w1.heap.size < w3.heap.size := by omega
  clear hb3 u0 u1 u2 u3
  go_wp2_with (go_at_call 9; refine (num_walk _ _).mono ?_; rintro x w4 ⟨rfl, rfl⟩)
  go_ret
  exact ⟨rfl, HB3.out⟩
 ·have HHAS := hidc hhas
  have HOWN := hidc hown
  have HFEW := hidc (out_few b gas hhas)
  obtain ⟨mf, hmf⟩ : ∃ mf, mf = fateB b gas := ⟨_, rfl⟩
  rw [← hmf] at HOWN HFEW ⊢
  have HMF := hidc hmf
  clear hhas hown hmf
  generalize hen : endOf mf = en at *
  have HEN := hidc hen
  clear hen
  go_wp2_with fail
  refine (ref_Ran b gas _).mono ?_
  rintro x w2 ⟨hb2, hx2⟩
  have HB2 := hidc ((HB1.out.alloc hz1 _).trans (hb2.mono (by simp; omega)))
  have u0 : w2.cell? ⟨w1.heap.size, 0, none⟩ = some (.int .i64 (en : Nat)) := by rw [(bcell hb2).1 _ _ (by simp)]; simp
  have u1 : w2.cell? ⟨w1.heap.size, 1, none⟩ = some (.slice oa (outM mf).length oc) := by rw [(bcell hb2).1 _ _ (by simp)]; simp
  have u2 : w2.cell? ⟨w1.heap.size, 2, none⟩ = some (.int .i64 (mf.gas : Nat)) := by rw [(bcell hb2).1 _ _ (by simp)]; simp
  have u3 : w2.cell? ⟨w1.heap.size, 3, none⟩ = some (.int .i64 (mf.steps : Nat)) := by rw [(bcell hb2).1 _ _ (by simp)]; simp
  have hs2 : w1.heap.size < w2.heap.size := by have := hb2.size; simp at this; omega
  rcases hx2 with ⟨e', hno', rfl⟩ | ⟨_, oa', oc', rfl, hown2⟩
  ·exact (HHAS.out.not hno').elim
  have HO1 := hidc (own_below (own_below HOWN.out (boxB w1 (.cells #[.int .i64 (en : Nat), .slice oa (outM mf).length oc, .int .i64 (mf.gas : Nat), .int .i64 (mf.steps : Nat)] 24))) hb2)
  rw [← HMF.out] at hown2 ⊢
  rw [HEN.out]
  have HO2 := hidc hown2
  clear hb2 hown2
  go_wp2_with fail
  refine (same_ints (outM mf) _ _ _ _ _ _ _ (own_below HO1.out (boxB _ _)) (own_below HO2.out (boxB _ _)) HFEW.out).mono ?_
  rintro x w3 ⟨rfl, hb3⟩
  have HB3 := hidc ((HB2.out.alloc HB2.out.size _).trans (hb3.mono (by have := HB2.out.size; simp; omega)))
  have hs3 : w2.heap.size < w3.heap.size := by have := hb3.size; simp at this; omega
  have p0 : w3.cell? ⟨w1.heap.size, 0, none⟩ = some (.int .i64 (en : Nat)) := by rw [(bcell hb3).1 _ _ (by simp; omega)]; exact (cell_al _ hs2).trans u0
  have p1 : w3.cell? ⟨w1.heap.size, 1, none⟩ = some (.slice oa (outM mf).length oc) := by rw [(bcell hb3).1 _ _ (by simp; omega)]; exact (cell_al _ hs2).trans u1
  have p2 : w3.cell? ⟨w1.heap.size, 2, none⟩ = some (.int .i64 (mf.gas : Nat)) := by rw [(bcell hb3).1 _ _ (by simp; omega)]; exact (cell_al _ hs2).trans u2
  have p3 : w3.cell? ⟨w1.heap.size, 3, none⟩ = some (.int .i64 (mf.steps : Nat)) := by rw [(bcell hb3).1 _ _ (by simp; omega)]; exact (cell_al _ hs2).trans u3
  have q0 : w3.cell? ⟨w2.heap.size, 0, none⟩ = some (.int .i64 (en : Nat)) := by rw [(bcell hb3).1 _ _ (by simp)]; simp
  have q1 : w3.cell? ⟨w2.heap.size, 1, none⟩ = some (.slice oa' (outM mf).length oc') := by rw [(bcell hb3).1 _ _ (by simp)]; simp
  have q2 : w3.cell? ⟨w2.heap.size, 2, none⟩ = some (.int .i64 (mf.gas : Nat)) := by rw [(bcell hb3).1 _ _ (by simp)]; simp
  have q3 : w3.cell? ⟨w2.heap.size, 3, none⟩ = some (.int .i64 (mf.steps : Nat)) := by rw [(bcell hb3).1 _ _ (by simp)]; simp
  have hs13 : w1.heap.size < w3.heap.size := by omega
  clear hb3 u0 u1 u2 u3
  go_wp2_with (go_at_call 9; refine (num_walk _ _).mono ?_; rintro x w4 ⟨rfl, rfl⟩)
  go_ret
  exact ⟨rfl, HB3.out⟩
end Go.Proofs.YtdhmandnamajpaaGreatDoor
