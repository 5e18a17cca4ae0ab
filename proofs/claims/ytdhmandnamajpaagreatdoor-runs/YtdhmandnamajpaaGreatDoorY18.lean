import Derived.Test.YtdhmandnamajpaaGreatDoorY00
import Derived.Test.YtdhmandnamajpaaGreatDoorY17
namespace Go.Proofs.YtdhmandnamajpaaGreatDoor
open Go.RowKit Go.Joins
set_option maxHeartbeats 4000000
set_option maxRecDepth 100000
structure PM (w : World) (n0 P A C n b off sl cap : Nat) (d : ByteArray) (s : Sec) (x : Ins) (N : Int) (ta : Option Addr) (tc : Nat) : Prop where
 u0 : w.cell? ⟨n0, 0, none⟩ = some (.slice (some ⟨b, off, none⟩) sl cap)
 u1 : w.cell? ⟨n0, 1, none⟩ = some (.string d)
 v0 : w.cell? ⟨n0 + 1, 0, none⟩ = some (.int .i64 s.i)
 v1 : w.cell? ⟨n0 + 1, 1, none⟩ = some (.int .i64 s.o)
 v2 : w.cell? ⟨n0 + 1, 2, none⟩ = some (.int .i64 s.m)
 v3 : w.cell? ⟨n0 + 1, 3, none⟩ = some (.string s.code)
 x0 : w.cell? ⟨n0 + 2, 0, none⟩ = some (.int .i64 x.pl)
 x1 : w.cell? ⟨n0 + 2, 1, none⟩ = some (.int .i64 x.op)
 x2 : w.cell? ⟨n0 + 2, 2, none⟩ = some (.int .i64 N)
 x3 : w.cell? ⟨n0 + 2, 3, none⟩ = some (.slice ta x.to.length tc)
 x4 : w.cell? ⟨n0 + 2, 4, none⟩ = some (.int .i64 x.nx)
 p0 : w.cell? ⟨P, 0, none⟩ = some (.slice (some ⟨A, 0, none⟩) n n)
 p1 : w.cell? ⟨P, 1, none⟩ = some (.slice (some ⟨C, 0, none⟩) n n)
theorem PM.kept {w w' : World} {n0 P A C n b off sl cap : Nat} {d : ByteArray} {s : Sec} {x : Ins} {N : Int} {ta : Option Addr} {tc : Nat} (h : PM w n0 P A C n b off sl cap d s x N ta tc)
  (hc : ∀ g i, g ≠ A → g ≠ C → g < n0 + 3 → w'.cell? ⟨g, i, none⟩ = w.cell? ⟨g, i, none⟩) (hA : A < n0) (hC : C < n0) (hP : P < n0) (h1 : P ≠ A) (h2 : P ≠ C) : PM w' n0 P A C n b off sl cap d s x N ta tc := by
 obtain ⟨a0, a1, a2, a3, a4, a5, a6, a7, a8, a9, a10, a11, a12⟩ := h
 exact ⟨(hc _ _ (by omega) (by omega) (by omega)).trans a0, (hc _ _ (by omega) (by omega) (by omega)).trans a1, (hc _ _ (by omega) (by omega) (by omega)).trans a2, (hc _ _ (by omega) (by omega) (by omega)).trans a3, (hc _ _ (by omega) (by omega) (by omega)).trans a4, (hc _ _ (by omega) (by omega) (by omega)).trans a5,
  (hc _ _ (by omega) (by omega) (by omega)).trans a6, (hc _ _ (by omega) (by omega) (by omega)).trans a7, (hc _ _ (by omega) (by omega) (by omega)).trans a8, (hc _ _ (by omega) (by omega) (by omega)).trans a9, (hc _ _ (by omega) (by omega) (by omega)).trans a10, (hc _ _ h1 h2 (by omega)).trans a11, (hc _ _ h1 h2 (by omega)).trans a12⟩
theorem PM.drew {w : World} {n0 P A C n b off sl cap : Nat} {d : ByteArray} {s : Sec} {x : Ins} {N : Int} {ta : Option Addr} {tc : Nat} (h : PM w n0 P A C n b off sl cap d s x N ta tc) : PM w.drew n0 P A C n b off sl cap d s x N ta tc :=
 ⟨h.u0, h.u1, h.v0, h.v1, h.v2, h.v3, h.x0, h.x1, h.x2, h.x3, h.x4, h.p0, h.p1⟩
theorem PM.below {w w' : World} {n0 P A C n b off sl cap : Nat} {d : ByteArray} {s : Sec} {x : Ins} {N : Int} {ta : Option Addr} {tc : Nat} (h : PM w n0 P A C n b off sl cap d s x N ta tc) (hP : P < n0) (hs : n0 + 3 ≤ w.heap.size) (hb : Below w.heap.size w w') : PM w' n0 P A C n b off sl cap d s x N ta tc := by
 obtain ⟨a0, a1, a2, a3, a4, a5, a6, a7, a8, a9, a10, a11, a12⟩ := h
 obtain ⟨hc, _⟩ := bcell hb
 exact ⟨(hc _ _ (by omega)).trans a0, (hc _ _ (by omega)).trans a1, (hc _ _ (by omega)).trans a2, (hc _ _ (by omega)).trans a3, (hc _ _ (by omega)).trans a4, (hc _ _ (by omega)).trans a5, (hc _ _ (by omega)).trans a6, (hc _ _ (by omega)).trans a7, (hc _ _ (by omega)).trans a8, (hc _ _ (by omega)).trans a9, (hc _ _ (by omega)).trans a10, (hc _ _ (by omega)).trans a11, (hc _ _ (by omega)).trans a12⟩
def PassPost (w : World) (S : List Sec) (s : Sec) (l : List Ins) (i : Nat) (x : Ins) (hs : List (Option (Int × Int))) (B P A C : Nat) : Ending → World → Prop := fun e w' => e = .returned (.int .i64 (passE S s l i x hs : Nat)) ∧ Below B w w' ∧
 (passE S s l i x hs = 0 → ∃ hs', passH S s l i x hs = some hs' ∧ HR w' P A C hs')
theorem rcell {w : World} {B n : Nat} {a : Option Addr} {c : Nat} {xs : List Value} (h : w.ownsRow B 3 1 (.slice a n c) n xs) {j : Nat} {u : Value} (hu : xs[j]? = some u) : ∃ g, a = some ⟨g, 0, none⟩ ∧ B ≤ g ∧ g < w.heap.size ∧ w.cell? ⟨g, j, none⟩ = some u := by
 have hj : j < xs.length := (List.getElem?_eq_some_iff.1 hu).1
 rcases h.2 with ⟨e1, e2⟩ | ⟨g, cap, cur, hv, hb, hg, h1, h2, h3, h4⟩
 ·rw [h.1, e2] at hj; omega
 ·injection hv with q1 q2 q3
  refine ⟨g, q1, hb, blt hg, ?_⟩
  rw [cell_of_block hg]
  rw [← h4, List.getElem?_take_of_lt (by rw [← h.1]; exact hj)] at hu
  simpa using hu
def jI (js : List Nat) : List Int := js.map (fun j => ((j : Nat) : Int))
theorem jI_get (js : List Nat) (k : Nat) (hk : k < js.length) : (iV (jI js))[k]? = some (.int .i64 ((js[k] : Nat) : Int)) := by simp [iV, jI, hk]
theorem newsJ (w : World) (x : Value) (g : Nat) (hg : g = w.heap.size) : ∀ j u, [x][j]? = some u → (w.alloc (.cells #[x] 3)).cell? ((⟨g, 0, none⟩ : Addr).add j) = some u := by
 intro j u hj
 subst hg
 have hb : (w.alloc (.cells #[x] 3)).heap[w.heap.size]? = some (.cells #[x] 3 (0, 0)) := heap_alloc_new w _
 exact World.news_of_block hb j u hj
theorem ref_pass (S : List Sec) (s : Sec) (d : ByteArray) (b off cap g cc B P A C i : Nat) (l : List Ins) (x : Ins) (hs : List (Option (Int × Int))) (w : World) (hS : SecsAt w b off S) (hbB : b < B) (hI : RIns w B g l) (hH : HR w P A C hs) (hAB : B ≤ A ∧ B ≤ C) (hlen : hs.length = l.length) (hxi : l[i]? = some x) (hl : l.length ≤ 120)
  (hNN : NNeg hs) (hSm : Small 40000 hs) (hal : S.all secB = true) (hs1 : secB s = true) (hop : x.op < 21) (hn : x.op = 2 ∨ x.n < 256) (hx : namesB x = true → x.n < S.length) (hto : ∀ t ∈ x.to, beginsB l t = true) (htl : x.to.length ≤ 256) :
  Calls Tryz.prog 112 #[.agg #[.slice (some ⟨b, off, none⟩) S.length cap, .string d], .agg #[.int .i64 s.i, .int .i64 s.o, .int .i64 s.m, .string s.code], .slice (some ⟨g, 0, none⟩) l.length cc, .pointer (some ⟨P, 0, none⟩), .int .i64 i] w (PassPost w S s l i x hs B P A C) := by
 have hil : i < l.length := (List.getElem?_eq_some_iff.1 hxi).1
 have hih : i < hs.length := by omega
 obtain ⟨iz, hiz, hzz0, hzz1, hzz2⟩ := info_parts Tryz.infoInt
 obtain ⟨c0, c1, ⟨N, c2, hN⟩, ⟨ta, tc, c3, hT⟩, c4⟩ := hI.cells i x hxi
 obtain ⟨hP, hA, hC⟩ := hH.lts
 obtain ⟨hAC, hPA, hPC⟩ := hH.ne
 obtain ⟨ti0, ti1⟩ := takes_le hal hs1 hn hx
 obtain ⟨br0, br1⟩ := brings_le hal hn hx
 have hle := hI.le
 have hgB := hI.lt
 have hgs : g < w.heap.size := by omega
 have HI := hidc hI
 have HS := hidc hS
 have HH := hidc hH
 have HN := hidc hN
 have HT := hidc hT
 have HX := hidc hx
 have HNN := hidc hNN
 have HSM := hidc hSm
 have HTO := hidc hto
 have HLEN := hidc hlen
 have HXI := hidc hxi
 clear hI hS hH hN hT hx hNN hSm hto hlen hxi
 generalize hnn : hs.length = n at *
 have HNL := hidc hnn
 clear hnn
 generalize htk : takesI S s x = tk at *
 generalize hbr : bringsI S x = br at *
 have HTK := hidc htk
 have HBR := hidc hbr
 clear htk hbr
 go_enter Tryz.func112, Tryz.ntmps112
 go_wp2_with fail
 have hb3 := b3 w (.cells #[.slice (some ⟨b, off, none⟩) S.length cap, .string d] 40) (.cells #[.int .i64 s.i, .int .i64 s.o, .int .i64 s.m, .string s.code] 65) (.cells #[.int .i64 x.pl, .int .i64 x.op, .int .i64 N, .slice ta x.to.length tc, .int .i64 x.nx] 129)
 refine (ref_flow S d b off cap x N (.slice ta x.to.length tc) s _ (HS.out.below (by omega) hb3) HN.out hop hn HX.out).mono ?_
 rw [HTK.out, HBR.out]
 rintro e w4 ⟨rfl, hb4⟩
 have HPM3 : Hid (PM (((w.alloc (.cells #[.slice (some ⟨b, off, none⟩) S.length cap, .string d] 40)).alloc (.cells #[.int .i64 s.i, .int .i64 s.o, .int .i64 s.m, .string s.code] 65)).alloc (.cells #[.int .i64 x.pl, .int .i64 x.op, .int .i64 N, .slice ta x.to.length tc, .int .i64 x.nx] 129)) w.heap.size P A C n b off S.length cap d s x N ta tc) := by
  obtain ⟨q0, q1⟩ := HH.out.head
  rw [HNL.out] at q0 q1
  have k0 : (((w.alloc (.cells #[.slice (some ⟨b, off, none⟩) S.length cap, .string d] 40)).alloc (.cells #[.int .i64 s.i, .int .i64 s.o, .int .i64 s.m, .string s.code] 65)).alloc (.cells #[.int .i64 x.pl, .int .i64 x.op, .int .i64 N, .slice ta x.to.length tc, .int .i64 x.nx] 129)).heap[w.heap.size]? = some (.cells #[.slice (some ⟨b, off, none⟩) S.length cap, .string d] 40 (0, 0)) :=
   (Below.heap_alloc _ _ _ (by simp; omega)).trans ((Below.heap_alloc _ _ _ (by simp)).trans (heap_alloc_new w _))
  have k1 : (((w.alloc (.cells #[.slice (some ⟨b, off, none⟩) S.length cap, .string d] 40)).alloc (.cells #[.int .i64 s.i, .int .i64 s.o, .int .i64 s.m, .string s.code] 65)).alloc (.cells #[.int .i64 x.pl, .int .i64 x.op, .int .i64 N, .slice ta x.to.length tc, .int .i64 x.nx] 129)).heap[w.heap.size + 1]? = some (.cells #[.int .i64 s.i, .int .i64 s.o, .int .i64 s.m, .string s.code] 65 (0, 0)) := by
   have := heap_alloc_new (w.alloc (.cells #[.slice (some ⟨b, off, none⟩) S.length cap, .string d] 40)) (.cells #[.int .i64 s.i, .int .i64 s.o, .int .i64 s.m, .string s.code] 65)
   exact (Below.heap_alloc _ _ _ (by simp)).trans (by simpa using this)
  have k2 : (((w.alloc (.cells #[.slice (some ⟨b, off, none⟩) S.length cap, .string d] 40)).alloc (.cells #[.int .i64 s.i, .int .i64 s.o, .int .i64 s.m, .string s.code] 65)).alloc (.cells #[.int .i64 x.pl, .int .i64 x.op, .int .i64 N, .slice ta x.to.length tc, .int .i64 x.nx] 129)).heap[w.heap.size + 2]? = some (.cells #[.int .i64 x.pl, .int .i64 x.op, .int .i64 N, .slice ta x.to.length tc, .int .i64 x.nx] 129 (0, 0)) := by
   have := heap_alloc_new ((w.alloc (.cells #[.slice (some ⟨b, off, none⟩) S.length cap, .string d] 40)).alloc (.cells #[.int .i64 s.i, .int .i64 s.o, .int .i64 s.m, .string s.code] 65)) (.cells #[.int .i64 x.pl, .int .i64 x.op, .int .i64 N, .slice ta x.to.length tc, .int .i64 x.nx] 129)
   simpa using this
  refine ⟨?_, ?_, ?_, ?_, ?_, ?_, ?_, ?_, ?_, ?_, ?_, ((bcell hb3).1 _ _ hP).trans q0, ((bcell hb3).1 _ _ hP).trans q1⟩
  ·rw [cell_of_block k0]; rfl
  ·rw [cell_of_block k0]; rfl
  ·rw [cell_of_block k1]; rfl
  ·rw [cell_of_block k1]; rfl
  ·rw [cell_of_block k1]; rfl
  ·rw [cell_of_block k1]; rfl
  ·rw [cell_of_block k2]; rfl
  ·rw [cell_of_block k2]; rfl
  ·rw [cell_of_block k2]; rfl
  ·rw [cell_of_block k2]; rfl
  ·rw [cell_of_block k2]; rfl
 have hsz4 : w.heap.size + 3 ≤ w4.heap.size := by have := hb4.size; simpa using this
 have HPM4 := hidc (HPM3.out.below hP (by simp) hb4)
 have HB4 := hidc (hb3.trans (hb4.mono (by simp; omega)))
 clear hb3 hb4 HPM3 c0 c1 c2 c3 c4
 have HB4d := hidc HB4.out.drew
 have HPM4d := hidc HPM4.out.drew
 have hsz4d : w.heap.size + 3 ≤ w4.drew.heap.size := hsz4
 have HH4 := hidc (HH.out.below HB4d.out)
 obtain ⟨lo4, hi4⟩ := HH4.out.cells i (by rw [HNL.out]; exact hih)
 generalize hLO : loN (hs.getD i none) = LO at *
 generalize hHI : hiN (hs.getD i none) = HI2 at *
 have HLO := hidc hLO
 have HHI := hidc hHI
 clear hLO hHI
 go_wp2_with fail
 refine wp_region_held_drew (S := fun w' => PM w' w.heap.size P A C n b off S.length cap d s x N ta tc ∧ w'.cell? ⟨A, i, none⟩ = some (.int .i64 LO) ∧ w'.cell? ⟨C, i, none⟩ = some (.int .i64 HI2)) (by kernel_rfl) ⟨HPM4d.out, lo4, hi4⟩ (fun hHeld => ?_)
 clear HB4 HPM4 hsz4
 generalize w4.drew = w4d at *
 refine _root_.Go.Proofs.YtdhmandnamajpaaGreatDoor.tk 0 ?va0 rfl ?hya0 hHeld ?resta0
 case hya0 => rintro w ⟨⟨u0, u1, v0, v1, v2, v3, x0, x1, x2, x3, x4, p0, p1⟩, la, ha⟩; go_simp; try with_reducible rfl
 simp only [Act.put, aA, aB, aC, aD, aE]
 refine _root_.Go.Proofs.YtdhmandnamajpaaGreatDoor.tk 1 ?va1 rfl ?hya1 hHeld ?resta1
 case hya1 => rintro w ⟨⟨u0, u1, v0, v1, v2, v3, x0, x1, x2, x3, x4, p0, p1⟩, la, ha⟩; go_simp; try with_reducible rfl
 simp only [Act.put, aA, aB, aC, aD, aE, aF]
 refine _root_.Go.Proofs.YtdhmandnamajpaaGreatDoor.tk 2 ?va2 rfl ?hya2 hHeld ?resta2
 case hya2 => rintro w ⟨⟨u0, u1, v0, v1, v2, v3, x0, x1, x2, x3, x4, p0, p1⟩, la, ha⟩; go_simp; try with_reducible rfl
 simp only [Act.put, aA, aB, aC, aD, aE, aF]
 refine _root_.Go.Proofs.YtdhmandnamajpaaGreatDoor.tk 3 ?va3 rfl ?hya3 hHeld ?resta3
 case hya3 => rintro w ⟨⟨u0, u1, v0, v1, v2, v3, x0, x1, x2, x3, x4, p0, p1⟩, la, ha⟩; go_simp; try with_reducible rfl
 simp only [Act.put, aA, aB, aC, aD, aE, aF]
 refine _root_.Go.Proofs.YtdhmandnamajpaaGreatDoor.tk 4 ?va4 rfl ?hya4 hHeld ?resta4
 case hya4 => rintro w ⟨⟨u0, u1, v0, v1, v2, v3, x0, x1, x2, x3, x4, p0, p1⟩, la, ha⟩; go_simp; try with_reducible rfl
 simp only [Act.put, aA, aB, aC, aD, aE, aF]
 refine _root_.Go.Proofs.YtdhmandnamajpaaGreatDoor.tk 5 ?va5 rfl ?hya5 hHeld ?resta5
 case hya5 => rintro w ⟨⟨u0, u1, v0, v1, v2, v3, x0, x1, x2, x3, x4, p0, p1⟩, la, ha⟩; go_simp; try with_reducible rfl
 simp only [Act.put, aA, aB, aC, aD, aE, aF]
 refine _root_.Go.Proofs.YtdhmandnamajpaaGreatDoor.tk 6 ?va6 rfl ?hya6 hHeld ?resta6
 case hya6 => rintro w ⟨⟨u0, u1, v0, v1, v2, v3, x0, x1, x2, x3, x4, p0, p1⟩, la, ha⟩; go_simp; try with_reducible rfl
 simp only [Act.put, aA, aB, aC, aD, aE, aF]
 refine _root_.Go.Proofs.YtdhmandnamajpaaGreatDoor.tk 7 ?va7 rfl ?hya7 hHeld ?resta7
 case hya7 => rintro w ⟨⟨u0, u1, v0, v1, v2, v3, x0, x1, x2, x3, x4, p0, p1⟩, la, ha⟩; go_simp; try with_reducible rfl
 simp only [Act.put, aA, aB, aC, aD, aE, aF]
 refine _root_.Go.Proofs.YtdhmandnamajpaaGreatDoor.tk 8 ?va8 rfl ?hya8 hHeld ?resta8
 case hya8 => rintro w ⟨⟨u0, u1, v0, v1, v2, v3, x0, x1, x2, x3, x4, p0, p1⟩, la, ha⟩; go_simp; try with_reducible rfl
 simp only [Act.put, aA, aB, aC, aD, aE, aF]
 refine _root_.Go.Proofs.YtdhmandnamajpaaGreatDoor.tk 9 ?va9 rfl ?hya9 hHeld ?resta9
 case hya9 => rintro w ⟨⟨u0, u1, v0, v1, v2, v3, x0, x1, x2, x3, x4, p0, p1⟩, la, ha⟩; go_simp; try with_reducible rfl
 simp only [Act.put, aA, aB, aC, aD, aE, aF]
 refine _root_.Go.Proofs.YtdhmandnamajpaaGreatDoor.tk 10 ?va10 rfl ?hya10 hHeld ?resta10
 case hya10 => rintro w ⟨⟨u0, u1, v0, v1, v2, v3, x0, x1, x2, x3, x4, p0, p1⟩, la, ha⟩; go_simp; try with_reducible rfl
 simp only [Act.put, aA, aB, aC, aD, aE, aF]
 refine _root_.Go.Proofs.YtdhmandnamajpaaGreatDoor.tk 11 ?va11 rfl ?hya11 hHeld ?resta11
 case hya11 => rintro w ⟨⟨u0, u1, v0, v1, v2, v3, x0, x1, x2, x3, x4, p0, p1⟩, la, ha⟩; go_simp; try with_reducible rfl
 simp only [Act.put, aA, aB, aC, aD, aE, aF]
 refine _root_.Go.Proofs.YtdhmandnamajpaaGreatDoor.tk 12 ?va12 rfl ?hya12 hHeld ?resta12
 case hya12 => rintro w ⟨⟨u0, u1, v0, v1, v2, v3, x0, x1, x2, x3, x4, p0, p1⟩, la, ha⟩; go_simp; try with_reducible rfl
 simp only [Act.put, aA, aB, aC, aD, aE, aF]
 refine _root_.Go.Proofs.YtdhmandnamajpaaGreatDoor.tk 13 ?va13 rfl ?hya13 hHeld ?resta13
 case hya13 => rintro w ⟨⟨u0, u1, v0, v1, v2, v3, x0, x1, x2, x3, x4, p0, p1⟩, la, ha⟩; go_simp; try with_reducible rfl
 simp only [Act.put, aA, aB, aC, aD, aE, aF]
 refine _root_.Go.Proofs.YtdhmandnamajpaaGreatDoor.tk 14 ?va14 rfl ?hya14 hHeld ?resta14
 case hya14 => rintro w ⟨⟨u0, u1, v0, v1, v2, v3, x0, x1, x2, x3, x4, p0, p1⟩, la, ha⟩; go_simp; try with_reducible rfl
 simp only [Act.put, aA, aB, aC, aD, aE, aF]
 refine _root_.Go.Proofs.YtdhmandnamajpaaGreatDoor.tk 15 ?va15 rfl ?hya15 hHeld ?resta15
 case hya15 => rintro w ⟨⟨u0, u1, v0, v1, v2, v3, x0, x1, x2, x3, x4, p0, p1⟩, la, ha⟩; go_simp; try with_reducible rfl
 simp only [Act.put, aA, aB, aC, aD, aE, aF]
 refine _root_.Go.Proofs.YtdhmandnamajpaaGreatDoor.tk 16 ?va16 rfl ?hya16 hHeld ?resta16
 case hya16 => rintro w ⟨⟨u0, u1, v0, v1, v2, v3, x0, x1, x2, x3, x4, p0, p1⟩, la, ha⟩; go_simp; try with_reducible rfl
 simp only [Act.put, aA, aB, aC, aD, aE, aF]
 refine rd 17 rfl (fun K hK => ?_)
 simp only [aD, aE, aF]
 go_simp
 go_at_call 135
 refine (ref_bad S d b off cap x N ta x.to.length tc s LO HI2 _ (HS.out.below (by omega) HB4d.out) HN.out (fun h => HX.out (by simp [namesB, h])) hal hs1).mono ?_
 rintro e w5 ⟨rfl, hb5⟩
 go_wp2_with fail
 have HB5 := hidc (HB4d.out.trans (hb5.mono (by omega)))
 have hsz5 : w.heap.size + 3 ≤ w5.heap.size := Nat.le_trans hsz4d hb5.size
 have HPM5 := hidc (HPM4d.out.below hP hsz4d hb5)
 have lo5 : w5.cell? ⟨A, i, none⟩ = some (.int .i64 LO) := ((bcell hb5).1 _ _ (by omega)).trans lo4
 have hi5 : w5.cell? ⟨C, i, none⟩ = some (.int .i64 HI2) := ((bcell hb5).1 _ _ (by omega)).trans hi4
 refine hK.out _ _ ⟨HPM5.out, lo5, hi5⟩ (fun hHeld => ?_)
 clear hK hb5 lo4 hi4
 generalize hbad : (returnsB S x && !mayReturnB S s x LO HI2) = bad at *
 have HBAD := hidc hbad
 clear hbad
 refine _root_.Go.Proofs.YtdhmandnamajpaaGreatDoor.tk 18 ?vb18 rfl ?hyb18 hHeld ?restb18
 case hyb18 => rintro w ⟨⟨u0, u1, v0, v1, v2, v3, x0, x1, x2, x3, x4, p0, p1⟩, la, ha⟩; go_simp; try with_reducible rfl
 simp only [Act.put, aA, aB, aC, aD, aE, aF]
 refine wpAnyH_done (by kernel_rfl) ?_ _
 clear hHeld
 obtain ⟨u0, u1, v0, v1, v2, v3, x0, x1, x2, x3, x4, p0, p1⟩ := HPM5.out
 go_wp2_with fail
 refine (ref_last x.op x.pl x.nx N (.slice ta x.to.length tc) _ hop).mono ?_
 rintro e w7 ⟨rfl, hb7⟩
 have HB7 := hidc (HB5.out.trans (hb7.mono (by omega)))
 have hsz7 : w.heap.size + 3 ≤ w7.heap.size := Nat.le_trans hsz5 hb7.size
 have HPM7 := hidc (HPM5.out.below hP hsz5 hb7)
 have lo7 : w7.cell? ⟨A, i, none⟩ = some (.int .i64 LO) := ((bcell hb7).1 _ _ (by omega)).trans lo5
 have hi7 : w7.cell? ⟨C, i, none⟩ = some (.int .i64 HI2) := ((bcell hb7).1 _ _ (by omega)).trans hi5
 clear hb7 lo5 hi5 hsz5 HPM5 HB5 u0 u1 v0 v1 v2 v3 x0 x1 x2 x3 x4 p0 p1 HPM4d HB4d HH4 hsz4d
 obtain ⟨u0, u1, v0, v1, v2, v3, x0, x1, x2, x3, x4, p0, p1⟩ := HPM7.out
 have HH7 := hidc (HH.out.below HB7.out)
 generalize hlt : lastT x.op = lt at *
 have HLT := hidc hlt
 clear hlt
 have HAH : Hid (aheadE S s l i x (hs.getD i none) = if LO < 0 then 10 else if LO < tk then 11 else if bad then 13 else if !lt && i + 1 == l.length then 14 else 0) := by
  show aheadE S s l i x (hs.getD i none) = if LO < 0 then 10 else if LO < tk then 11 else if bad then 13 else if !lt && i + 1 == l.length then 14 else 0
  have hneg := loN_neg HNN.out i
  rw [← HLO.out, ← HBAD.out, ← HLT.out, ← HTK.out, ← HLO.out, ← HHI.out]
  cases ho : hs.getD i none with
  | none => simp [aheadE, loN]
  | some o =>
   have := HNN.out i o ho
   simp only [aheadE, loN, hiN, Option.map_some, Option.getD_some]
   have h0 : ¬ o.1 < 0 := by omega
   exact (if_neg h0).symm
 have hfail : ∀ e, aheadE S s l i x (hs.getD i none) = e → e ≠ 0 → passE S s l i x hs = e := by
  intro e h1 h2
  unfold passE
  rw [if_pos (by rw [h1]; exact h2), h1]
 have HFAIL := hidc hfail
 clear hfail
 by_cases hL0 : LO < 0
 ·have HE : Hid (passE S s l i x hs = 10) := HFAIL.out 10 (by rw [HAH.out, if_pos hL0]) (by decide)
  go_wp2_with fail
  go_ret
  exact ⟨ret_intn HE.out.symm, HB7.out.mono hle, fun h => by rw [HE.out] at h; cases h⟩
 by_cases hL1 : LO < tk
 ·have HE : Hid (passE S s l i x hs = 11) := HFAIL.out 11 (by rw [HAH.out, if_neg hL0, if_pos hL1]) (by decide)
  go_wp2_with fail
  go_ret
  exact ⟨ret_intn HE.out.symm, HB7.out.mono hle, fun h => by rw [HE.out] at h; cases h⟩
 cases bad with
 | true =>
  have HE : Hid (passE S s l i x hs = 13) := HFAIL.out 13 (by rw [HAH.out, if_neg hL0, if_neg hL1]; rfl) (by decide)
  go_wp2_with fail
  go_ret
  exact ⟨ret_intn HE.out.symm, HB7.out.mono hle, fun h => by rw [HE.out] at h; cases h⟩
 | false =>
  by_cases hE14 : (!lt && i + 1 == l.length) = true
  ·have HE : Hid (passE S s l i x hs = 14) := HFAIL.out 14 (by rw [HAH.out, if_neg hL0, if_neg hL1, hE14]; rfl) (by decide)
   simp only [Bool.and_eq_true, Bool.not_eq_true', beq_iff_eq] at hE14
   obtain ⟨rfl, hil1⟩ := hE14
   have hil2 : ((i : Int) + 1 == (l.length : Int)) = true := by simp; omega
   go_wp2_with fail
   go_ret
   exact ⟨ret_intn HE.out.symm, HB7.out.mono hle, fun h => by rw [HE.out] at h; cases h⟩
  ·have HA0 : Hid (aheadE S s l i x (hs.getD i none) = 0) := by
    show aheadE S s l i x (hs.getD i none) = 0
    rw [HAH.out, if_neg hL0, if_neg hL1]
    simp only [Bool.false_eq_true, if_false]
    rw [if_neg hE14]
   obtain ⟨hHB, hHI2⟩ : (-40000 ≤ LO ∧ LO ≤ 40000) ∧ (-40000 ≤ HI2 ∧ HI2 ≤ 40000) := by
    rw [← HLO.out, ← HHI.out]
    cases ho : hs.getD i none with
    | none => simp [loN, hiN]
    | some o => have := HSM.out i o ho; simp only [loN, hiN, Option.map_some, Option.getD_some]; omega
   have HGG : Hid (afterI S s x ((hs.getD i none).getD (0, 0)) = (LO - tk + br, HI2 - tk + br)) := by
    show afterI S s x ((hs.getD i none).getD (0, 0)) = (LO - tk + br, HI2 - tk + br)
    rw [← HTK.out, ← HBR.out]
    cases ho : hs.getD i none with
    | none => exact absurd (by rw [← HLO.out, ho]; simp [loN]) hL0
    | some o =>
     have e1 : LO = o.1 := by rw [← HLO.out, ho]; rfl
     have e2 : HI2 = o.2 := by rw [← HHI.out, ho]; rfl
     rw [e1, e2]; rfl
   have HJL : Hid (∀ j ∈ nextsI l i x, j < l.length) := by
    intro j hj
    unfold nextsI at hj
    rw [HLT.out] at hj
    rcases List.mem_append.1 hj with h1 | h1
    ·obtain ⟨t, ht, rfl⟩ := List.mem_map.1 h1
     exact (idxP_spec (HTO.out t ht)).1
    ·cases lt with
     | true => simp at h1
     | false =>
      simp at h1
      simp at hE14
      omega
   have HPE : Hid (∀ r, passH S s l i x hs = r → passE S s l i x hs = match r with | none => 12 | some _ => 0) := by
    intro r hr
    unfold passE
    rw [if_neg (by rw [HA0.out]; simp), hr]
    cases r <;> rfl
   have hNI : (x.to.map (idxP l)).length = x.to.length := by simp
   clear HAH HFAIL HA0 HBAD
   have hw1 : wrap64 (LO - tk) = LO - tk := by unfold wrap64; omega
   have hw2 : wrap64 (LO - tk + br) = LO - tk + br := by unfold wrap64; omega
   have hw3 : wrap64 (HI2 - tk) = HI2 - tk := by unfold wrap64; omega
   have hw4 : wrap64 (HI2 - tk + br) = HI2 - tk + br := by unfold wrap64; omega
   cases lt with
   | true =>
    have HNX : Hid (nextsI l i x = x.to.map (idxP l)) := by
     show nextsI l i x = x.to.map (idxP l)
     unfold nextsI
     rw [HLT.out]
     simp
    go_wp2_with fail
    go_loopw [16, 17] (fun pv iv wr => ∃ k : Nat, k ≤ x.to.length ∧ iv = .int .i64 k ∧ Hid (wr.ownsRow w7.heap.size 3 1 pv k (iV (jI ((x.to.map (idxP l)).take k)))) ∧ Hid (Below w7.heap.size w7 wr)) (fun _ iv _ => x.to.length - (intOf iv).toNat)
    case atStart => exact ⟨0, Nat.zero_le _, rfl, ⟨by simp [iV, jI], .inl ⟨rfl, rfl⟩⟩, Below.refl _ _⟩
    case round =>
     obtain ⟨k, hk, rfl, HO, HBL⟩ := hrel
     obtain ⟨pa, pc, rfl⟩ := row_form HO.out
     have hszr : w7.heap.size ≤ wr.heap.size := HBL.out.size
     have HPMr := hidc (HPM7.out.below hP hsz7 HBL.out)
     have HBr := hidc (HB7.out.trans (HBL.out.mono (by omega)))
     obtain ⟨ru0, ru1, rv0, rv1, rv2, rv3, rx0, rx1, rx2, rx3, rx4, rp0, rp1⟩ := HPMr.out
     by_cases hkl : k < x.to.length
     ·have HIDX : Hid (idxI l x.to[k] = ((idxP l x.to[k] : Nat) : Int)) := by
       show idxI l x.to[k] = ((idxP l x.to[k] : Nat) : Int)
       unfold idxI
       rw [if_pos (HTO.out _ (List.getElem_mem _))]
      obtain ⟨q, hta, hqB, hcq⟩ : ∃ q, ta = some ⟨q, 0, none⟩ ∧ q < B ∧ wr.cell? ⟨q, k, none⟩ = some (.int .i64 x.to[k]) := by
       rcases HT.out with h | ⟨q, e, hq, hc⟩
       ·rw [h] at hkl; simp at hkl
       ·exact ⟨q, e, hq, ((bcell HBr.out).1 _ _ (by omega)).trans (hc k _ (by simp [hkl]))⟩
      subst hta
      have HPL := hidc (HI.out.below (HBr.out.mono hle)).places
      go_wp2_with fail
      refine (ref_begins g cc l x.to[k] _ HPL.out hl).mono ?_
      rw [HIDX.out]
      rintro e w8 ⟨rfl, rfl⟩
      go_wp2_with (at_builtin; refine wpList_append_lies _ rfl (.tmp 91) (.tmp 99) 22 rfl w7.heap.size 3 iz (.int .i64 0) 1 8 Tryz.underlying22 hiz hzz0 hzz1 hzz2 rfl (by decide) _ k (iV (jI ((x.to.map (idxP l)).take k))) rfl (HO.out.alloc _) ⟨w8.heap.size, 0, none⟩ 1 1 [.int .i64 ((idxP l x.to[k] : Nat) : Int)] rfl rfl (newsJ _ _ _ rfl) (one1c _) (by decide) (by unfold maxLen; omega) (by omega) (by simp; omega) _ rfl ?_)
      intro ga ca w9 hown9 hgrow9 hat9 hlt9
      have HO9 := hidc hown9
      have HB9 := hidc ((HBL.out.alloc hszr _).grown hgrow9 (by simp; omega) (fun j hj => (HO.out.lt j hj).1))
      clear hown9 hgrow9 hat9 hlt9
      go_wp2_with fail
      go_roundw
      case rel =>
       refine ⟨k + 1, by omega, by go_num, ?_, HB9.out⟩
       have e1 : jI ((x.to.map (idxP l)).take (k + 1)) = jI ((x.to.map (idxP l)).take k) ++ [((idxP l x.to[k] : Nat) : Int)] := by
        rw [List.take_succ_eq_append_getElem (by simpa using hkl)]
        simp [jI]
       rw [e1, iV_snoc]
       exact HO9.out
      case measure => simp [intOf]; omega
     ·have hkm : k = x.to.length := by omega
      subst hkm
      have HO' : Hid (wr.ownsRow w7.heap.size 3 1 (.slice pa x.to.length pc) x.to.length (iV (jI (x.to.map (idxP l))))) := by
       have := HO.out
       rw [← hNI, List.take_length] at this
       rw [← hNI]
       exact this
      have HPM7' := HPM7
      clear HO HPM7 u0 u1 v0 v1 v2 v3 x0 x1 x2 x3 x4 p0 p1 lo7 hi7
      have HHr := hidc (HH7.out.below HBL.out)
      obtain ⟨lor, hir⟩ := HHr.out.cells i (by rw [HNL.out]; exact hih)
      rw [HLO.out] at lor
      rw [HHI.out] at hir
      have HHQ := HHr
      have HROW : Hid (wr.ownsRow w7.heap.size 3 1 (.slice pa x.to.length pc) x.to.length (iV (jI (nextsI l i x)))) := by
       have := HO'.out
       rw [← HNX.out] at this
       exact this
      have HBQ := hidc (HBr.out.mono hle)
      have HPMQ := HPMr
      have HSZQ := hidc hszr
      have HGGE : afterI S s x ((hs.getD i none).getD (0, 0)) = (LO - tk + br, HI2 - tk + br) := HGG.out
      clear HO' HHr HBr HPMr
      go_wp2_with fail
      generalize hJS : nextsI l i x = JS at *
      have HNJ : Hid (x.to.length = JS.length) := by show x.to.length = JS.length; rw [HNX.out]; simp
      have HJS := hidc hJS
      clear hJS HNX
      generalize hgl : LO - tk + br = gl at *
      generalize hgh : HI2 - tk + br = gh at *
      have hgl0 : 0 ≤ gl := by omega
      clear hgl hgh lor hir hw1 hw2 hw3 hw4 
      go_loopw [20] (fun iv wk => ∃ (k : Nat) (hsk : List (Option (Int × Int))), k ≤ JS.length ∧ iv = .int .i64 k ∧ Hid (givesH i (gl, gh) hs (JS.take k) = some hsk) ∧ Hid (HR wk P A C hsk) ∧ Hid (wk.ownsRow w7.heap.size 3 1 (.slice pa x.to.length pc) x.to.length (iV (jI JS))) ∧ Hid (Below B w wk) ∧ Hid (NNeg hsk) ∧ Hid (PM wk w.heap.size P A C n b off S.length cap d s x N ta tc) ∧ Hid (w7.heap.size ≤ wk.heap.size)) (fun iv _ => JS.length - (intOf iv).toNat)
      case atStart => exact ⟨0, hs, Nat.zero_le _, rfl, rfl, HHQ.out, HROW.out, HBQ.out, HNN.out, HPMQ.out, HSZQ.out⟩
      case round =>
       obtain ⟨k, hsk, hk, rfl, HG, HHk, HRk, HBk, HNk, HPk, hszk⟩ := hrel
       have hszk := hszk.out
       have hlk : hsk.length = n := by rw [giveH_len HG.out, HNL.out]
       have kp0 := HPk.out.p0
       have kp1 := HPk.out.p1
       by_cases hkJ : k < JS.length
       ·have hkn : k < x.to.length := by have := HNJ.out; omega
        have hjl : JS[k] < l.length := HJL.out _ (List.getElem_mem _)
        obtain ⟨gt, hqa, hgB, hgs, ct⟩ := rcell HRk.out (jI_get JS k hkJ)
        have hqa' : pa = some ⟨gt, 0, none⟩ := hqa
        subst hqa'
        have HSN := hidc (givesH_snoc hkJ HG.out)
        generalize hj : JS[k] = j at *
        have hjn : j < n := by rw [HLEN.out]; exact hjl
        obtain ⟨cl, ch⟩ := HHk.out.cells j (by omega)
        obtain ⟨fl, fh⟩ := HHk.out.froz j
        obtain ⟨pP, pA, pC⟩ := HHk.out.lts
        have hnegj := loN_neg HNk.out j
        have HO2 : Hid (∀ o, hsk.getD j none = some o → loN (hsk.getD j none) = o.1 ∧ hiN (hsk.getD j none) = o.2) := by
         intro o ho
         rw [ho]
         exact ⟨rfl, rfl⟩
        generalize hlj : loN (hsk.getD j none) = lj at *
        generalize hhj : hiN (hsk.getD j none) = hj2 at *
        clear hlj hhj hj
        by_cases hji : j ≤ i
        ·by_cases heq : hsk.getD j none = some (gl, gh)
         ·have hgv : giveH i (gl, gh) hsk j = some hsk := by unfold giveH; rw [if_pos hji, if_pos heq]
          obtain ⟨e1, e2⟩ := HO2.out _ heq
          simp only at e1 e2
          subst e1 e2
          have HGV := hidc (HSN.out.trans hgv)
          clear hgv heq HO2 hnegj
          go_wp2_with fail
          go_roundw
          case rel => exact ⟨k + 1, hsk, by omega, by go_num, HGV.out, HHk.out, HRk.out, HBk.out, HNk.out, HPk.out, hszk⟩
          case measure => simp [intOf]; omega
         ·have hgv : giveH i (gl, gh) hsk j = none := by unfold giveH; rw [if_pos hji, if_neg heq]
          have HPN : Hid (passE S s l i x hs = 12) := by
           refine HPE.out none ?_
           unfold passH
           rw [HGGE]
           rw [HJS.out, ← List.take_append_drop (k + 1) JS, givesH_append, HSN.out, hgv]
           rfl
          have hne : lj = gl → ¬ hj2 = gh := by
           intro h1 h2
           apply heq
           cases ho : hsk.getD j none with
           | none => rw [ho] at hnegj; have := hnegj.2 rfl; omega
           | some o =>
            obtain ⟨e1, e2⟩ := HO2.out o ho
            rw [← h1, ← h2, e1, e2]
          clear hgv heq HO2 hnegj
          by_cases h1 : lj = gl
          ·have h2 := hne h1
           subst h1
           clear hne
           go_wp2_with fail
           go_ret
           exact ⟨ret_intn HPN.out.symm, HBk.out, fun h => by rw [HPN.out] at h; cases h⟩
          ·clear hne
           go_wp2_with fail
           go_ret
           exact ⟨ret_intn HPN.out.symm, HBk.out, fun h => by rw [HPN.out] at h; cases h⟩
        ·by_cases hneg : lj < 0
         ·have ho := hnegj.1 hneg
          have hgv : giveH i (gl, gh) hsk j = some (hsk.set j (some (gl, gh))) := by unfold giveH; rw [if_neg hji, ho]; rfl
          have HGV := hidc (HSN.out.trans hgv)
          have HNS := hidc (HNk.out.give (i := i) (g := (gl, gh)) hgl0 hgv)
          have HHS := hidc (HHk.out.set j gl gh)
          clear hgv ho HO2 hnegj
          go_wp2_with fail
          go_roundw
          case rel =>
           refine ⟨k + 1, _, by omega, by go_num, HGV.out, HHS.out, own_set (own_set HRk.out (by omega) _ _) (by omega) _ _, (HBk.out.setCell hAB.1 _).setCell hAB.2 _, HNS.out, ?_, (by show w7.heap.size ≤ _; simpa [World.setCell] using hszk)⟩
           exact HPk.out.kept (fun g i hg1 hg2 _ => (set_other _ hg2).trans (set_other _ hg1)) hA hC hP hPA hPC
          case measure => simp [intOf]; omega
         ·cases ho : hsk.getD j none with
          | none => exact absurd (hnegj.2 ho) hneg
          | some o =>
           obtain ⟨e1, e2⟩ := HO2.out o ho
           have hgv : giveH i (gl, gh) hsk j = some (hsk.set j (some (min gl lj, max gh hj2))) := by unfold giveH; rw [if_neg hji, ho, e1, e2]; rfl
           have HGV := hidc (HSN.out.trans hgv)
           have HNS := hidc (HNk.out.give (i := i) (g := (gl, gh)) hgl0 hgv)
           have HHS := hidc (HHk.out.set j (min gl lj) (max gh hj2))
           clear hgv ho HO2 hnegj e1 e2
           go_wp2_with fail
           have kp0tx : wr.drew.cell? ⟨P, 0, none⟩ = some (.slice (some ⟨A, 0, none⟩) n n) := kp0
           have clD : wr.drew.cell? ⟨A, j, none⟩ = some (.int .i64 lj) := cl
           have flD : wr.drew.frozen? ⟨A, j, none⟩ = false := fl
           refine wp_region_held_drew (S := fun w' => w'.cell? ⟨P, 0, none⟩ = some (.slice (some ⟨A, 0, none⟩) n n)) (by kernel_rfl) kp0tx (fun hHeld => ?_)
           refine _root_.Go.Proofs.YtdhmandnamajpaaGreatDoor.tk 0 ?vtxa0 rfl ?hytxa0 hHeld ?resttxa0
           case hytxa0 => intro w hSw; (try dsimp only at hSw); go_simp; try with_reducible rfl
           simp only [Act.put, aA, aB, aC, aD, aE]
           refine _root_.Go.Proofs.YtdhmandnamajpaaGreatDoor.tk 1 ?vtxa1 rfl ?hytxa1 hHeld ?resttxa1
           case hytxa1 => intro w hSw; (try dsimp only at hSw); go_simp; try with_reducible rfl
           simp only [Act.put, aA, aB, aC, aD, aE, aF]
           refine _root_.Go.Proofs.YtdhmandnamajpaaGreatDoor.tk 2 ?vtxa2 rfl ?hytxa2 hHeld ?resttxa2
           case hytxa2 => intro w hSw; (try dsimp only at hSw); go_simp; try with_reducible rfl
           simp only [Act.put, aA, aB, aC, aD, aE, aF]
           refine _root_.Go.Proofs.YtdhmandnamajpaaGreatDoor.tk 3 ?vtxa3 rfl ?hytxa3 hHeld ?resttxa3
           case hytxa3 => intro w hSw; (try dsimp only at hSw); go_simp; try with_reducible rfl
           simp only [Act.put, aA, aB, aC, aD, aE, aF]
           refine _root_.Go.Proofs.YtdhmandnamajpaaGreatDoor.tk 4 ?vtxa4 rfl ?hytxa4 hHeld ?resttxa4
           case hytxa4 => intro w hSw; (try dsimp only at hSw); go_simp; try with_reducible rfl
           simp only [Act.put, aA, aB, aC, aD, aE, aF]
           refine _root_.Go.Proofs.YtdhmandnamajpaaGreatDoor.tk 5 ?vtxa5 rfl ?hytxa5 hHeld ?resttxa5
           case hytxa5 => intro w hSw; (try dsimp only at hSw); go_simp; try with_reducible rfl
           simp only [Act.put, aA, aB, aC, aD, aE, aF]
           refine _root_.Go.Proofs.YtdhmandnamajpaaGreatDoor.tk 6 ?vtxa6 rfl ?hytxa6 hHeld ?resttxa6
           case hytxa6 => intro w hSw; (try dsimp only at hSw); go_simp; try with_reducible rfl
           simp only [Act.put, aA, aB, aC, aD, aE, aF]
           refine _root_.Go.Proofs.YtdhmandnamajpaaGreatDoor.tk 7 ?vtxa7 rfl ?hytxa7 hHeld ?resttxa7
           case hytxa7 => intro w hSw; (try dsimp only at hSw); go_simp; try with_reducible rfl
           simp only [Act.put, aA, aB, aC, aD, aE, aF]
           refine _root_.Go.Proofs.YtdhmandnamajpaaGreatDoor.tk 8 ?vtxa8 rfl ?hytxa8 hHeld ?resttxa8
           case hytxa8 => intro w hSw; (try dsimp only at hSw); go_simp; try with_reducible rfl
           simp only [Act.put, aA, aB, aC, aD, aE, aF]
           refine _root_.Go.Proofs.YtdhmandnamajpaaGreatDoor.tk 9 ?vtxa9 rfl ?hytxa9 hHeld ?resttxa9
           case hytxa9 => intro w hSw; (try dsimp only at hSw); go_simp; try with_reducible rfl
           simp only [Act.put, aA, aB, aC, aD, aE, aF]
           refine _root_.Go.Proofs.YtdhmandnamajpaaGreatDoor.tk 10 ?vtxa10 rfl ?hytxa10 hHeld ?resttxa10
           case hytxa10 => intro w hSw; (try dsimp only at hSw); go_simp; try with_reducible rfl
           simp only [Act.put, aA, aB, aC, aD, aE, aF]
           refine _root_.Go.Proofs.YtdhmandnamajpaaGreatDoor.tk 11 ?vtxa11 rfl ?hytxa11 hHeld ?resttxa11
           case hytxa11 => intro w hSw; (try dsimp only at hSw); go_simp; try with_reducible rfl
           simp only [Act.put, aA, aB, aC, aD, aE, aF]
           refine rd 12 rfl (fun K hK => ?_)
           simp only [aD, aE, aF]
           go_simp
           refine hK.out _ _ hHeld (fun hHeld => ?_)
           clear hK
           refine _root_.Go.Proofs.YtdhmandnamajpaaGreatDoor.tk 13 (.int .i64 (min gl lj)) rfl ?hytxb13 hHeld ?resttxb13
           case hytxb13 => intro w hSw; (try dsimp only at hSw); go_simp; split <;> omega
           simp only [Act.put, aA, aB, aC, aD, aE, aF]
           refine _root_.Go.Proofs.YtdhmandnamajpaaGreatDoor.tk 14 ?vtxb14 rfl ?hytxb14 hHeld ?resttxb14
           case hytxb14 => intro w hSw; (try dsimp only at hSw); go_simp; try with_reducible rfl
           simp only [Act.put, aA, aB, aC, aD, aE, aF]
           refine rd 15 rfl (fun K hK => ?_)
           simp only [aD, aE, aF]
           go_simp
           refine hK.out _ _ ((set_other _ hPA).trans hHeld) (fun hHeld => ?_)
           clear hK
           refine wpAnyH_done (by kernel_rfl) ?_ _
           have chE : (wr.drew.setCell ⟨A, j, none⟩ (.int .i64 (min gl lj))).cell? ⟨C, j, none⟩ = some (.int .i64 hj2) := (set_other _ (Ne.symm hAC)).trans ch
           have kpE : (wr.drew.setCell ⟨A, j, none⟩ (.int .i64 (min gl lj))).cell? ⟨P, 1, none⟩ = some (.slice (some ⟨C, 0, none⟩) n n) := (set_other _ hPA).trans kp1
           go_wp2_with fail
           have kp1ty : ((wr.drew.setCell ⟨A, j, none⟩ (.int .i64 (min gl lj))).drew).cell? ⟨P, 1, none⟩ = some (.slice (some ⟨C, 0, none⟩) n n) := kpE
           have chF : ((wr.drew.setCell ⟨A, j, none⟩ (.int .i64 (min gl lj))).drew).cell? ⟨C, j, none⟩ = some (.int .i64 hj2) := chE
           have fhF : ((wr.drew.setCell ⟨A, j, none⟩ (.int .i64 (min gl lj))).drew).frozen? ⟨C, j, none⟩ = false := (World.frozen?_of_block (w := wr) (Below.heap_setCell _ _ _ _ (Ne.symm hAC))).trans fh
           refine wp_region_held_drew (S := fun w' => w'.cell? ⟨P, 1, none⟩ = some (.slice (some ⟨C, 0, none⟩) n n)) (by kernel_rfl) kp1ty (fun hHeld => ?_)
           refine _root_.Go.Proofs.YtdhmandnamajpaaGreatDoor.tk 0 ?vtya0 rfl ?hytya0 hHeld ?resttya0
           case hytya0 => intro w hSw; (try dsimp only at hSw); go_simp; try with_reducible rfl
           simp only [Act.put, aA, aB, aC, aD, aE]
           refine _root_.Go.Proofs.YtdhmandnamajpaaGreatDoor.tk 1 ?vtya1 rfl ?hytya1 hHeld ?resttya1
           case hytya1 => intro w hSw; (try dsimp only at hSw); go_simp; try with_reducible rfl
           simp only [Act.put, aA, aB, aC, aD, aE, aF]
           refine _root_.Go.Proofs.YtdhmandnamajpaaGreatDoor.tk 2 ?vtya2 rfl ?hytya2 hHeld ?resttya2
           case hytya2 => intro w hSw; (try dsimp only at hSw); go_simp; try with_reducible rfl
           simp only [Act.put, aA, aB, aC, aD, aE, aF]
           refine _root_.Go.Proofs.YtdhmandnamajpaaGreatDoor.tk 3 ?vtya3 rfl ?hytya3 hHeld ?resttya3
           case hytya3 => intro w hSw; (try dsimp only at hSw); go_simp; try with_reducible rfl
           simp only [Act.put, aA, aB, aC, aD, aE, aF]
           refine _root_.Go.Proofs.YtdhmandnamajpaaGreatDoor.tk 4 ?vtya4 rfl ?hytya4 hHeld ?resttya4
           case hytya4 => intro w hSw; (try dsimp only at hSw); go_simp; try with_reducible rfl
           simp only [Act.put, aA, aB, aC, aD, aE, aF]
           refine _root_.Go.Proofs.YtdhmandnamajpaaGreatDoor.tk 5 ?vtya5 rfl ?hytya5 hHeld ?resttya5
           case hytya5 => intro w hSw; (try dsimp only at hSw); go_simp; try with_reducible rfl
           simp only [Act.put, aA, aB, aC, aD, aE, aF]
           refine _root_.Go.Proofs.YtdhmandnamajpaaGreatDoor.tk 6 ?vtya6 rfl ?hytya6 hHeld ?resttya6
           case hytya6 => intro w hSw; (try dsimp only at hSw); go_simp; try with_reducible rfl
           simp only [Act.put, aA, aB, aC, aD, aE, aF]
           refine _root_.Go.Proofs.YtdhmandnamajpaaGreatDoor.tk 7 ?vtya7 rfl ?hytya7 hHeld ?resttya7
           case hytya7 => intro w hSw; (try dsimp only at hSw); go_simp; try with_reducible rfl
           simp only [Act.put, aA, aB, aC, aD, aE, aF]
           refine _root_.Go.Proofs.YtdhmandnamajpaaGreatDoor.tk 8 ?vtya8 rfl ?hytya8 hHeld ?resttya8
           case hytya8 => intro w hSw; (try dsimp only at hSw); go_simp; try with_reducible rfl
           simp only [Act.put, aA, aB, aC, aD, aE, aF]
           refine _root_.Go.Proofs.YtdhmandnamajpaaGreatDoor.tk 9 ?vtya9 rfl ?hytya9 hHeld ?resttya9
           case hytya9 => intro w hSw; (try dsimp only at hSw); go_simp; try with_reducible rfl
           simp only [Act.put, aA, aB, aC, aD, aE, aF]
           refine _root_.Go.Proofs.YtdhmandnamajpaaGreatDoor.tk 10 ?vtya10 rfl ?hytya10 hHeld ?resttya10
           case hytya10 => intro w hSw; (try dsimp only at hSw); go_simp; try with_reducible rfl
           simp only [Act.put, aA, aB, aC, aD, aE, aF]
           refine _root_.Go.Proofs.YtdhmandnamajpaaGreatDoor.tk 11 ?vtya11 rfl ?hytya11 hHeld ?resttya11
           case hytya11 => intro w hSw; (try dsimp only at hSw); go_simp; try with_reducible rfl
           simp only [Act.put, aA, aB, aC, aD, aE, aF]
           refine rd 12 rfl (fun K hK => ?_)
           simp only [aD, aE, aF]
           go_simp
           refine hK.out _ _ hHeld (fun hHeld => ?_)
           clear hK
           refine _root_.Go.Proofs.YtdhmandnamajpaaGreatDoor.tk 13 (.int .i64 (max gh hj2)) rfl ?hytyb13 hHeld ?resttyb13
           case hytyb13 => intro w hSw; (try dsimp only at hSw); go_simp; split <;> omega
           simp only [Act.put, aA, aB, aC, aD, aE, aF]
           refine _root_.Go.Proofs.YtdhmandnamajpaaGreatDoor.tk 14 ?vtyb14 rfl ?hytyb14 hHeld ?resttyb14
           case hytyb14 => intro w hSw; (try dsimp only at hSw); go_simp; try with_reducible rfl
           simp only [Act.put, aA, aB, aC, aD, aE, aF]
           refine rd 15 rfl (fun K hK => ?_)
           simp only [aD, aE, aF]
           go_simp
           refine hK.out _ _ ((set_other _ hPC).trans hHeld) (fun hHeld => ?_)
           clear hK
           refine wpAnyH_done (by kernel_rfl) ?_ _
           go_wp2_with fail
           refine ⟨⟨k + 1, _, by omega, by first | rfl | go_num, HGV.out, ⟨HHS.out.blk, HHS.out.lo, HHS.out.hi, HHS.out.ne⟩, ?_, ?_, HNS.out, ?_, (by show w7.heap.size ≤ _; simpa [World.setCell] using hszk)⟩, ?_⟩
           ·exact own_set (own_set HRk.out (by omega) _ _) (by omega) _ _
           ·exact ((((HBk.out.drew).setCell hAB.1 _).drew).setCell hAB.2 _)
           ·exact HPk.out.kept (fun g i hg1 hg2 _ => (set_other _ hg2).trans (set_other _ hg1)) hA hC hP hPA hPC
           ·simp [intOf]; omega
       ·have hkm : k = JS.length := by omega
        subst hkm
        have hkn : ¬ JS.length < x.to.length := by have := HNJ.out; omega
        have hPH : passH S s l i x hs = some hsk := by
         unfold passH
         rw [HGGE]
         rw [HJS.out]
         have := HG.out
         rw [List.take_length] at this
         exact this
        have HPN : Hid (passE S s l i x hs = 0) := HPE.out _ hPH
        have HPH := hidc hPH
        clear hPH
        go_wp2_with fail
        go_ret
        exact ⟨ret_intn HPN.out.symm, HBk.out, fun _ => ⟨hsk, HPH.out, HHk.out⟩⟩
   | false =>
    have hi1 : ((i : Int) + 1 == (l.length : Int)) = false := by
     simp at hE14
     simp
     omega
    have hi2 : i + 1 < l.length := by
     simp at hE14
     omega
    have HNX : Hid (nextsI l i x = x.to.map (idxP l) ++ [i + 1]) := by
     show nextsI l i x = x.to.map (idxP l) ++ [i + 1]
     unfold nextsI
     rw [HLT.out]
     rfl
    clear hE14
    go_wp2_with fail
    go_loopw [16, 17] (fun pv iv wr => ∃ k : Nat, k ≤ x.to.length ∧ iv = .int .i64 k ∧ Hid (wr.ownsRow w7.heap.size 3 1 pv k (iV (jI ((x.to.map (idxP l)).take k)))) ∧ Hid (Below w7.heap.size w7 wr)) (fun _ iv _ => x.to.length - (intOf iv).toNat)
    case atStart => exact ⟨0, Nat.zero_le _, rfl, ⟨by simp [iV, jI], .inl ⟨rfl, rfl⟩⟩, Below.refl _ _⟩
    case round =>
     obtain ⟨k, hk, rfl, HO, HBL⟩ := hrel
     obtain ⟨pa, pc, rfl⟩ := row_form HO.out
     have hszr : w7.heap.size ≤ wr.heap.size := HBL.out.size
     have HPMr := hidc (HPM7.out.below hP hsz7 HBL.out)
     have HBr := hidc (HB7.out.trans (HBL.out.mono (by omega)))
     obtain ⟨ru0, ru1, rv0, rv1, rv2, rv3, rx0, rx1, rx2, rx3, rx4, rp0, rp1⟩ := HPMr.out
     by_cases hkl : k < x.to.length
     ·have HIDX : Hid (idxI l x.to[k] = ((idxP l x.to[k] : Nat) : Int)) := by
       show idxI l x.to[k] = ((idxP l x.to[k] : Nat) : Int)
       unfold idxI
       rw [if_pos (HTO.out _ (List.getElem_mem _))]
      obtain ⟨q, hta, hqB, hcq⟩ : ∃ q, ta = some ⟨q, 0, none⟩ ∧ q < B ∧ wr.cell? ⟨q, k, none⟩ = some (.int .i64 x.to[k]) := by
       rcases HT.out with h | ⟨q, e, hq, hc⟩
       ·rw [h] at hkl; simp at hkl
       ·exact ⟨q, e, hq, ((bcell HBr.out).1 _ _ (by omega)).trans (hc k _ (by simp [hkl]))⟩
      subst hta
      have HPL := hidc (HI.out.below (HBr.out.mono hle)).places
      go_wp2_with fail
      refine (ref_begins g cc l x.to[k] _ HPL.out hl).mono ?_
      rw [HIDX.out]
      rintro e w8 ⟨rfl, rfl⟩
      go_wp2_with (at_builtin; refine wpList_append_lies _ rfl (.tmp 91) (.tmp 99) 22 rfl w7.heap.size 3 iz (.int .i64 0) 1 8 Tryz.underlying22 hiz hzz0 hzz1 hzz2 rfl (by decide) _ k (iV (jI ((x.to.map (idxP l)).take k))) rfl (HO.out.alloc _) ⟨w8.heap.size, 0, none⟩ 1 1 [.int .i64 ((idxP l x.to[k] : Nat) : Int)] rfl rfl (newsJ _ _ _ rfl) (one1c _) (by decide) (by unfold maxLen; omega) (by omega) (by simp; omega) _ rfl ?_)
      intro ga ca w9 hown9 hgrow9 hat9 hlt9
      have HO9 := hidc hown9
      have HB9 := hidc ((HBL.out.alloc hszr _).grown hgrow9 (by simp; omega) (fun j hj => (HO.out.lt j hj).1))
      clear hown9 hgrow9 hat9 hlt9
      go_wp2_with fail
      go_roundw
      case rel =>
       refine ⟨k + 1, by omega, by go_num, ?_, HB9.out⟩
       have e1 : jI ((x.to.map (idxP l)).take (k + 1)) = jI ((x.to.map (idxP l)).take k) ++ [((idxP l x.to[k] : Nat) : Int)] := by
        rw [List.take_succ_eq_append_getElem (by simpa using hkl)]
        simp [jI]
       rw [e1, iV_snoc]
       exact HO9.out
      case measure => simp [intOf]; omega
     ·have hkm : k = x.to.length := by omega
      subst hkm
      have HO' : Hid (wr.ownsRow w7.heap.size 3 1 (.slice pa x.to.length pc) x.to.length (iV (jI (x.to.map (idxP l))))) := by
       have := HO.out
       rw [← hNI, List.take_length] at this
       rw [← hNI]
       exact this
      have HPM7' := HPM7
      clear HO HPM7 u0 u1 v0 v1 v2 v3 x0 x1 x2 x3 x4 p0 p1 lo7 hi7
      have HHr := hidc (HH7.out.below HBL.out)
      obtain ⟨lor, hir⟩ := HHr.out.cells i (by rw [HNL.out]; exact hih)
      rw [HLO.out] at lor
      rw [HHI.out] at hir
      have HGGE : afterI S s x ((hs.getD i none).getD (0, 0)) = (LO - tk + br, HI2 - tk + br) := HGG.out
      go_wp2_with (at_builtin; refine wpList_append_lies _ rfl (.tmp 103) (.tmp 106) 22 rfl w7.heap.size 3 iz (.int .i64 0) 1 8 Tryz.underlying22 hiz hzz0 hzz1 hzz2 rfl (by decide) _ x.to.length (iV (jI (x.to.map (idxP l)))) rfl (HO'.out.alloc _) ⟨wr.heap.size, 0, none⟩ 1 1 [.int .i64 ((i : Int) + 1)] rfl rfl (newsJ _ _ _ rfl) (one1c _) (by decide) (by unfold maxLen; omega) (by omega) (by simp; omega) _ rfl ?_)
      intro ga ca w10 hown10 hgrow10 hat10 hlt10
      have HROW : Hid (w10.ownsRow w7.heap.size 3 1 (.slice (some ⟨ga, 0, none⟩) (x.to.length + 1) ca) (x.to.length + 1) (iV (jI (nextsI l i x)))) := by
       have e1 : iV (jI (nextsI l i x)) = iV (jI (x.to.map (idxP l))) ++ [.int .i64 ((i : Int) + 1)] := by rw [HNX.out]; simp [jI, iV]
       rw [e1]
       exact hown10
      have hb10 : Below w7.heap.size w7 w10 := (HBL.out.alloc hszr _).grown hgrow10 (by simp; omega) (fun j hj => (HO'.out.lt j hj).1)
      have HHQ := hidc (HH7.out.below hb10)
      have HBQ := hidc ((HB7.out.trans (hb10.mono (by omega))).mono hle)
      have HPMQ := hidc (HPM7'.out.below hP hsz7 hb10)
      have HSZQ := hidc hb10.size
      have lor' := HHQ.out.cells i (by rw [HNL.out]; exact hih)
      clear lor hir
      obtain ⟨lor, hir⟩ := lor'
      rw [HLO.out] at lor
      rw [HHI.out] at hir
      obtain ⟨su0, su1, sv0, sv1, sv2, sv3, sx0, sx1, sx2, sx3, sx4, sp0, sp1⟩ := HPMQ.out
      clear hown10 hgrow10 hat10 hlt10 HO' HHr HBr HPMr hb10 ru0 ru1 rv0 rv1 rv2 rv3 rx0 rx1 rx2 rx3 rx4 rp0 rp1
      go_wp2_with fail
      generalize hJS : nextsI l i x = JS at *
      have HNJ : Hid ((x.to.length + 1) = JS.length) := by show (x.to.length + 1) = JS.length; rw [HNX.out]; simp
      have HJS := hidc hJS
      clear hJS HNX
      generalize hgl : LO - tk + br = gl at *
      generalize hgh : HI2 - tk + br = gh at *
      have hgl0 : 0 ≤ gl := by omega
      clear hgl hgh lor hir hw1 hw2 hw3 hw4 
      go_loopw [20] (fun iv wk => ∃ (k : Nat) (hsk : List (Option (Int × Int))), k ≤ JS.length ∧ iv = .int .i64 k ∧ Hid (givesH i (gl, gh) hs (JS.take k) = some hsk) ∧ Hid (HR wk P A C hsk) ∧ Hid (wk.ownsRow w7.heap.size 3 1 (.slice (some ⟨ga, 0, none⟩) (x.to.length + 1) ca) (x.to.length + 1) (iV (jI JS))) ∧ Hid (Below B w wk) ∧ Hid (NNeg hsk) ∧ Hid (PM wk w.heap.size P A C n b off S.length cap d s x N ta tc) ∧ Hid (w7.heap.size ≤ wk.heap.size)) (fun iv _ => JS.length - (intOf iv).toNat)
      case atStart => exact ⟨0, hs, Nat.zero_le _, rfl, rfl, HHQ.out, HROW.out, HBQ.out, HNN.out, HPMQ.out, HSZQ.out⟩
      case round =>
       obtain ⟨k, hsk, hk, rfl, HG, HHk, HRk, HBk, HNk, HPk, hszk⟩ := hrel
       have hszk := hszk.out
       have hlk : hsk.length = n := by rw [giveH_len HG.out, HNL.out]
       have kp0 := HPk.out.p0
       have kp1 := HPk.out.p1
       by_cases hkJ : k < JS.length
       ·have hkn : k < (x.to.length + 1) := by have := HNJ.out; omega
        have hjl : JS[k] < l.length := HJL.out _ (List.getElem_mem _)
        obtain ⟨gt, hqa, hgB, hgs, ct⟩ := rcell HRk.out (jI_get JS k hkJ)
        obtain rfl : ga = gt := by injection hqa with hqa; injection hqa
        have HSN := hidc (givesH_snoc hkJ HG.out)
        generalize hj : JS[k] = j at *
        have hjn : j < n := by rw [HLEN.out]; exact hjl
        obtain ⟨cl, ch⟩ := HHk.out.cells j (by omega)
        obtain ⟨fl, fh⟩ := HHk.out.froz j
        obtain ⟨pP, pA, pC⟩ := HHk.out.lts
        have hnegj := loN_neg HNk.out j
        have HO2 : Hid (∀ o, hsk.getD j none = some o → loN (hsk.getD j none) = o.1 ∧ hiN (hsk.getD j none) = o.2) := by
         intro o ho
         rw [ho]
         exact ⟨rfl, rfl⟩
        generalize hlj : loN (hsk.getD j none) = lj at *
        generalize hhj : hiN (hsk.getD j none) = hj2 at *
        clear hlj hhj hj
        by_cases hji : j ≤ i
        ·by_cases heq : hsk.getD j none = some (gl, gh)
         ·have hgv : giveH i (gl, gh) hsk j = some hsk := by unfold giveH; rw [if_pos hji, if_pos heq]
          obtain ⟨e1, e2⟩ := HO2.out _ heq
          simp only at e1 e2
          subst e1 e2
          have HGV := hidc (HSN.out.trans hgv)
          clear hgv heq HO2 hnegj
          go_wp2_with fail
          go_roundw
          case rel => exact ⟨k + 1, hsk, by omega, by go_num, HGV.out, HHk.out, HRk.out, HBk.out, HNk.out, HPk.out, hszk⟩
          case measure => simp [intOf]; omega
         ·have hgv : giveH i (gl, gh) hsk j = none := by unfold giveH; rw [if_pos hji, if_neg heq]
          have HPN : Hid (passE S s l i x hs = 12) := by
           refine HPE.out none ?_
           unfold passH
           rw [HGGE]
           rw [HJS.out, ← List.take_append_drop (k + 1) JS, givesH_append, HSN.out, hgv]
           rfl
          have hne : lj = gl → ¬ hj2 = gh := by
           intro h1 h2
           apply heq
           cases ho : hsk.getD j none with
           | none => rw [ho] at hnegj; have := hnegj.2 rfl; omega
           | some o =>
            obtain ⟨e1, e2⟩ := HO2.out o ho
            rw [← h1, ← h2, e1, e2]
          clear hgv heq HO2 hnegj
          by_cases h1 : lj = gl
          ·have h2 := hne h1
           subst h1
           clear hne
           go_wp2_with fail
           go_ret
           exact ⟨ret_intn HPN.out.symm, HBk.out, fun h => by rw [HPN.out] at h; cases h⟩
          ·clear hne
           go_wp2_with fail
           go_ret
           exact ⟨ret_intn HPN.out.symm, HBk.out, fun h => by rw [HPN.out] at h; cases h⟩
        ·by_cases hneg : lj < 0
         ·have ho := hnegj.1 hneg
          have hgv : giveH i (gl, gh) hsk j = some (hsk.set j (some (gl, gh))) := by unfold giveH; rw [if_neg hji, ho]; rfl
          have HGV := hidc (HSN.out.trans hgv)
          have HNS := hidc (HNk.out.give (i := i) (g := (gl, gh)) hgl0 hgv)
          have HHS := hidc (HHk.out.set j gl gh)
          clear hgv ho HO2 hnegj
          go_wp2_with fail
          go_roundw
          case rel =>
           refine ⟨k + 1, _, by omega, by go_num, HGV.out, HHS.out, own_set (own_set HRk.out (by omega) _ _) (by omega) _ _, (HBk.out.setCell hAB.1 _).setCell hAB.2 _, HNS.out, ?_, (by show w7.heap.size ≤ _; simpa [World.setCell] using hszk)⟩
           exact HPk.out.kept (fun g i hg1 hg2 _ => (set_other _ hg2).trans (set_other _ hg1)) hA hC hP hPA hPC
          case measure => simp [intOf]; omega
         ·cases ho : hsk.getD j none with
          | none => exact absurd (hnegj.2 ho) hneg
          | some o =>
           obtain ⟨e1, e2⟩ := HO2.out o ho
           have hgv : giveH i (gl, gh) hsk j = some (hsk.set j (some (min gl lj, max gh hj2))) := by unfold giveH; rw [if_neg hji, ho, e1, e2]; rfl
           have HGV := hidc (HSN.out.trans hgv)
           have HNS := hidc (HNk.out.give (i := i) (g := (gl, gh)) hgl0 hgv)
           have HHS := hidc (HHk.out.set j (min gl lj) (max gh hj2))
           clear hgv ho HO2 hnegj e1 e2
           go_wp2_with fail
           have kp0fx : wr.drew.cell? ⟨P, 0, none⟩ = some (.slice (some ⟨A, 0, none⟩) n n) := kp0
           have clD : wr.drew.cell? ⟨A, j, none⟩ = some (.int .i64 lj) := cl
           have flD : wr.drew.frozen? ⟨A, j, none⟩ = false := fl
           refine wp_region_held_drew (S := fun w' => w'.cell? ⟨P, 0, none⟩ = some (.slice (some ⟨A, 0, none⟩) n n)) (by kernel_rfl) kp0fx (fun hHeld => ?_)
           refine _root_.Go.Proofs.YtdhmandnamajpaaGreatDoor.tk 0 ?vfxa0 rfl ?hyfxa0 hHeld ?restfxa0
           case hyfxa0 => intro w hSw; (try dsimp only at hSw); go_simp; try with_reducible rfl
           simp only [Act.put, aA, aB, aC, aD, aE]
           refine _root_.Go.Proofs.YtdhmandnamajpaaGreatDoor.tk 1 ?vfxa1 rfl ?hyfxa1 hHeld ?restfxa1
           case hyfxa1 => intro w hSw; (try dsimp only at hSw); go_simp; try with_reducible rfl
           simp only [Act.put, aA, aB, aC, aD, aE, aF]
           refine _root_.Go.Proofs.YtdhmandnamajpaaGreatDoor.tk 2 ?vfxa2 rfl ?hyfxa2 hHeld ?restfxa2
           case hyfxa2 => intro w hSw; (try dsimp only at hSw); go_simp; try with_reducible rfl
           simp only [Act.put, aA, aB, aC, aD, aE, aF]
           refine _root_.Go.Proofs.YtdhmandnamajpaaGreatDoor.tk 3 ?vfxa3 rfl ?hyfxa3 hHeld ?restfxa3
           case hyfxa3 => intro w hSw; (try dsimp only at hSw); go_simp; try with_reducible rfl
           simp only [Act.put, aA, aB, aC, aD, aE, aF]
           refine _root_.Go.Proofs.YtdhmandnamajpaaGreatDoor.tk 4 ?vfxa4 rfl ?hyfxa4 hHeld ?restfxa4
           case hyfxa4 => intro w hSw; (try dsimp only at hSw); go_simp; try with_reducible rfl
           simp only [Act.put, aA, aB, aC, aD, aE, aF]
           refine _root_.Go.Proofs.YtdhmandnamajpaaGreatDoor.tk 5 ?vfxa5 rfl ?hyfxa5 hHeld ?restfxa5
           case hyfxa5 => intro w hSw; (try dsimp only at hSw); go_simp; try with_reducible rfl
           simp only [Act.put, aA, aB, aC, aD, aE, aF]
           refine _root_.Go.Proofs.YtdhmandnamajpaaGreatDoor.tk 6 ?vfxa6 rfl ?hyfxa6 hHeld ?restfxa6
           case hyfxa6 => intro w hSw; (try dsimp only at hSw); go_simp; try with_reducible rfl
           simp only [Act.put, aA, aB, aC, aD, aE, aF]
           refine _root_.Go.Proofs.YtdhmandnamajpaaGreatDoor.tk 7 ?vfxa7 rfl ?hyfxa7 hHeld ?restfxa7
           case hyfxa7 => intro w hSw; (try dsimp only at hSw); go_simp; try with_reducible rfl
           simp only [Act.put, aA, aB, aC, aD, aE, aF]
           refine _root_.Go.Proofs.YtdhmandnamajpaaGreatDoor.tk 8 ?vfxa8 rfl ?hyfxa8 hHeld ?restfxa8
           case hyfxa8 => intro w hSw; (try dsimp only at hSw); go_simp; try with_reducible rfl
           simp only [Act.put, aA, aB, aC, aD, aE, aF]
           refine _root_.Go.Proofs.YtdhmandnamajpaaGreatDoor.tk 9 ?vfxa9 rfl ?hyfxa9 hHeld ?restfxa9
           case hyfxa9 => intro w hSw; (try dsimp only at hSw); go_simp; try with_reducible rfl
           simp only [Act.put, aA, aB, aC, aD, aE, aF]
           refine _root_.Go.Proofs.YtdhmandnamajpaaGreatDoor.tk 10 ?vfxa10 rfl ?hyfxa10 hHeld ?restfxa10
           case hyfxa10 => intro w hSw; (try dsimp only at hSw); go_simp; try with_reducible rfl
           simp only [Act.put, aA, aB, aC, aD, aE, aF]
           refine _root_.Go.Proofs.YtdhmandnamajpaaGreatDoor.tk 11 ?vfxa11 rfl ?hyfxa11 hHeld ?restfxa11
           case hyfxa11 => intro w hSw; (try dsimp only at hSw); go_simp; try with_reducible rfl
           simp only [Act.put, aA, aB, aC, aD, aE, aF]
           refine rd 12 rfl (fun K hK => ?_)
           simp only [aD, aE, aF]
           go_simp
           refine hK.out _ _ hHeld (fun hHeld => ?_)
           clear hK
           refine _root_.Go.Proofs.YtdhmandnamajpaaGreatDoor.tk 13 (.int .i64 (min gl lj)) rfl ?hyfxb13 hHeld ?restfxb13
           case hyfxb13 => intro w hSw; (try dsimp only at hSw); go_simp; split <;> omega
           simp only [Act.put, aA, aB, aC, aD, aE, aF]
           refine _root_.Go.Proofs.YtdhmandnamajpaaGreatDoor.tk 14 ?vfxb14 rfl ?hyfxb14 hHeld ?restfxb14
           case hyfxb14 => intro w hSw; (try dsimp only at hSw); go_simp; try with_reducible rfl
           simp only [Act.put, aA, aB, aC, aD, aE, aF]
           refine rd 15 rfl (fun K hK => ?_)
           simp only [aD, aE, aF]
           go_simp
           refine hK.out _ _ ((set_other _ hPA).trans hHeld) (fun hHeld => ?_)
           clear hK
           refine wpAnyH_done (by kernel_rfl) ?_ _
           have chE : (wr.drew.setCell ⟨A, j, none⟩ (.int .i64 (min gl lj))).cell? ⟨C, j, none⟩ = some (.int .i64 hj2) := (set_other _ (Ne.symm hAC)).trans ch
           have kpE : (wr.drew.setCell ⟨A, j, none⟩ (.int .i64 (min gl lj))).cell? ⟨P, 1, none⟩ = some (.slice (some ⟨C, 0, none⟩) n n) := (set_other _ hPA).trans kp1
           go_wp2_with fail
           have kp1fy : ((wr.drew.setCell ⟨A, j, none⟩ (.int .i64 (min gl lj))).drew).cell? ⟨P, 1, none⟩ = some (.slice (some ⟨C, 0, none⟩) n n) := kpE
           have chF : ((wr.drew.setCell ⟨A, j, none⟩ (.int .i64 (min gl lj))).drew).cell? ⟨C, j, none⟩ = some (.int .i64 hj2) := chE
           have fhF : ((wr.drew.setCell ⟨A, j, none⟩ (.int .i64 (min gl lj))).drew).frozen? ⟨C, j, none⟩ = false := (World.frozen?_of_block (w := wr) (Below.heap_setCell _ _ _ _ (Ne.symm hAC))).trans fh
           refine wp_region_held_drew (S := fun w' => w'.cell? ⟨P, 1, none⟩ = some (.slice (some ⟨C, 0, none⟩) n n)) (by kernel_rfl) kp1fy (fun hHeld => ?_)
           refine _root_.Go.Proofs.YtdhmandnamajpaaGreatDoor.tk 0 ?vfya0 rfl ?hyfya0 hHeld ?restfya0
           case hyfya0 => intro w hSw; (try dsimp only at hSw); go_simp; try with_reducible rfl
           simp only [Act.put, aA, aB, aC, aD, aE]
           refine _root_.Go.Proofs.YtdhmandnamajpaaGreatDoor.tk 1 ?vfya1 rfl ?hyfya1 hHeld ?restfya1
           case hyfya1 => intro w hSw; (try dsimp only at hSw); go_simp; try with_reducible rfl
           simp only [Act.put, aA, aB, aC, aD, aE, aF]
           refine _root_.Go.Proofs.YtdhmandnamajpaaGreatDoor.tk 2 ?vfya2 rfl ?hyfya2 hHeld ?restfya2
           case hyfya2 => intro w hSw; (try dsimp only at hSw); go_simp; try with_reducible rfl
           simp only [Act.put, aA, aB, aC, aD, aE, aF]
           refine _root_.Go.Proofs.YtdhmandnamajpaaGreatDoor.tk 3 ?vfya3 rfl ?hyfya3 hHeld ?restfya3
           case hyfya3 => intro w hSw; (try dsimp only at hSw); go_simp; try with_reducible rfl
           simp only [Act.put, aA, aB, aC, aD, aE, aF]
           refine _root_.Go.Proofs.YtdhmandnamajpaaGreatDoor.tk 4 ?vfya4 rfl ?hyfya4 hHeld ?restfya4
           case hyfya4 => intro w hSw; (try dsimp only at hSw); go_simp; try with_reducible rfl
           simp only [Act.put, aA, aB, aC, aD, aE, aF]
           refine _root_.Go.Proofs.YtdhmandnamajpaaGreatDoor.tk 5 ?vfya5 rfl ?hyfya5 hHeld ?restfya5
           case hyfya5 => intro w hSw; (try dsimp only at hSw); go_simp; try with_reducible rfl
           simp only [Act.put, aA, aB, aC, aD, aE, aF]
           refine _root_.Go.Proofs.YtdhmandnamajpaaGreatDoor.tk 6 ?vfya6 rfl ?hyfya6 hHeld ?restfya6
           case hyfya6 => intro w hSw; (try dsimp only at hSw); go_simp; try with_reducible rfl
           simp only [Act.put, aA, aB, aC, aD, aE, aF]
           refine _root_.Go.Proofs.YtdhmandnamajpaaGreatDoor.tk 7 ?vfya7 rfl ?hyfya7 hHeld ?restfya7
           case hyfya7 => intro w hSw; (try dsimp only at hSw); go_simp; try with_reducible rfl
           simp only [Act.put, aA, aB, aC, aD, aE, aF]
           refine _root_.Go.Proofs.YtdhmandnamajpaaGreatDoor.tk 8 ?vfya8 rfl ?hyfya8 hHeld ?restfya8
           case hyfya8 => intro w hSw; (try dsimp only at hSw); go_simp; try with_reducible rfl
           simp only [Act.put, aA, aB, aC, aD, aE, aF]
           refine _root_.Go.Proofs.YtdhmandnamajpaaGreatDoor.tk 9 ?vfya9 rfl ?hyfya9 hHeld ?restfya9
           case hyfya9 => intro w hSw; (try dsimp only at hSw); go_simp; try with_reducible rfl
           simp only [Act.put, aA, aB, aC, aD, aE, aF]
           refine _root_.Go.Proofs.YtdhmandnamajpaaGreatDoor.tk 10 ?vfya10 rfl ?hyfya10 hHeld ?restfya10
           case hyfya10 => intro w hSw; (try dsimp only at hSw); go_simp; try with_reducible rfl
           simp only [Act.put, aA, aB, aC, aD, aE, aF]
           refine _root_.Go.Proofs.YtdhmandnamajpaaGreatDoor.tk 11 ?vfya11 rfl ?hyfya11 hHeld ?restfya11
           case hyfya11 => intro w hSw; (try dsimp only at hSw); go_simp; try with_reducible rfl
           simp only [Act.put, aA, aB, aC, aD, aE, aF]
           refine rd 12 rfl (fun K hK => ?_)
           simp only [aD, aE, aF]
           go_simp
           refine hK.out _ _ hHeld (fun hHeld => ?_)
           clear hK
           refine _root_.Go.Proofs.YtdhmandnamajpaaGreatDoor.tk 13 (.int .i64 (max gh hj2)) rfl ?hyfyb13 hHeld ?restfyb13
           case hyfyb13 => intro w hSw; (try dsimp only at hSw); go_simp; split <;> omega
           simp only [Act.put, aA, aB, aC, aD, aE, aF]
           refine _root_.Go.Proofs.YtdhmandnamajpaaGreatDoor.tk 14 ?vfyb14 rfl ?hyfyb14 hHeld ?restfyb14
           case hyfyb14 => intro w hSw; (try dsimp only at hSw); go_simp; try with_reducible rfl
           simp only [Act.put, aA, aB, aC, aD, aE, aF]
           refine rd 15 rfl (fun K hK => ?_)
           simp only [aD, aE, aF]
           go_simp
           refine hK.out _ _ ((set_other _ hPC).trans hHeld) (fun hHeld => ?_)
           clear hK
           refine wpAnyH_done (by kernel_rfl) ?_ _
           go_wp2_with fail
           refine ⟨⟨k + 1, _, by omega, by first | rfl | go_num, HGV.out, ⟨HHS.out.blk, HHS.out.lo, HHS.out.hi, HHS.out.ne⟩, ?_, ?_, HNS.out, ?_, (by show w7.heap.size ≤ _; simpa [World.setCell] using hszk)⟩, ?_⟩
           ·exact own_set (own_set HRk.out (by omega) _ _) (by omega) _ _
           ·exact ((((HBk.out.drew).setCell hAB.1 _).drew).setCell hAB.2 _)
           ·exact HPk.out.kept (fun g i hg1 hg2 _ => (set_other _ hg2).trans (set_other _ hg1)) hA hC hP hPA hPC
           ·simp [intOf]; omega
       ·have hkm : k = JS.length := by omega
        subst hkm
        have hkn : ¬ JS.length < (x.to.length + 1) := by have := HNJ.out; omega
        have hPH : passH S s l i x hs = some hsk := by
         unfold passH
         rw [HGGE]
         rw [HJS.out]
         have := HG.out
         rw [List.take_length] at this
         exact this
        have HPN : Hid (passE S s l i x hs = 0) := HPE.out _ hPH
        have HPH := hidc hPH
        clear hPH
        go_wp2_with fail
        go_ret
        exact ⟨ret_intn HPN.out.symm, HBk.out, fun _ => ⟨hsk, HPH.out, HHk.out⟩⟩
end Go.Proofs.YtdhmandnamajpaaGreatDoor
