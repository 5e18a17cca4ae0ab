import Derived.Test.YtdhmandnamajpaaGreatDoorY00
import Derived.Test.YtdhmandnamajpaaGreatDoorY23
import Derived.Shelf.Abstract
namespace Go.Proofs.YtdhmandnamajpaaGreatDoor
open Go.RowKit Go.Joins
set_option maxHeartbeats 2000000
set_option maxRecDepth 8000
structure CodesAt (w0 : World) (M B : Nat) (F : Fix) (S : List Sec) : Prop where
 ex : ∃ gc cc, F.codesV = .slice (some ⟨gc, 0, none⟩) S.length cc ∧ gc < B ∧ gc ≠ M ∧ ∀ k (hk : k < S.length), ∃ g c, w0.cell? ⟨gc, k, none⟩ = some (.slice (some ⟨g, 0, none⟩) S[k].code.size c) ∧ g < B ∧ g ≠ M ∧
  ∀ (i : Nat) (x : Ins), (codeI S[k].code)[i]? = some x → w0.cell? ⟨g, x.pl * 5, none⟩ = some (.int .i64 x.op) ∧ w0.cell? ⟨g, x.pl * 5 + 1, none⟩ = some (.int .i64 x.pl) ∧ w0.cell? ⟨g, x.pl * 5 + 2, none⟩ = some (.int .i64 x.nx) ∧ w0.cell? ⟨g, x.pl * 5 + 3, none⟩ = some (.int .i64 x.n) ∧
   ∃ ta tc, w0.cell? ⟨g, x.pl * 5 + 4, none⟩ = some (.slice ta x.to.length tc) ∧ ∀ (j : Nat) (t : Int), x.to[j]? = some t → ∃ q, ta = some ⟨q, 0, none⟩ ∧ q < B ∧ q ≠ M ∧ w0.cell? ⟨q, j, none⟩ = some (.int .i64 t)
structure RunS (w0 w : World) (M B D : Nat) (F : Fix) (S : List Sec) (m0 m : MS) : Prop where
 mach : MachX w0 w M B F m
 good : m.fin = none → Good S m
 fate : fateM S F.d m = fateM S F.d m0
 outs : m.out.length ≤ m.steps
 gas : m.steps + m.gas ≤ 3000
 does : w.heap[D]? = some (.cells deedsA 113 (0, 0))
 size : B ≤ w.heap.size
def RunPost (w0 w : World) (M B : Nat) (F : Fix) (S : List Sec) (m0 : MS) : Ending → World → Prop := fun e w' => e = .returned (.tuple #[]) ∧ MachX w0 w' M B F { fateM S F.d m0 with out := outM (fateM S F.d m0) } ∧ B ≤ w'.heap.size ∧ KT w w' ∧ w.heap.size ≤ w'.heap.size
theorem deeds_get {op : Nat} (h : op < 21) : deedsA[op]? = some (.func (.func (opF op)) #[] #[]) := by
 rcases (show op = 0 ∨ op = 1 ∨ op = 2 ∨ op = 3 ∨ op = 4 ∨ op = 5 ∨ op = 6 ∨ op = 7 ∨ op = 8 ∨ op = 9 ∨ op = 10 ∨ op = 11 ∨ op = 12 ∨ op = 13 ∨ op = 14 ∨ op = 15 ∨ op = 16 ∨ op = 17 ∨ op = 18 ∨ op = 19 ∨ op = 20 by omega) with rfl | rfl | rfl | rfl | rfl | rfl | rfl | rfl | rfl | rfl | rfl | rfl | rfl | rfl | rfl | rfl | rfl | rfl | rfl | rfl | rfl <;> rfl
theorem deeds_enter {op : Nat} (h : op < 21) (args : Array Value) (w : World) : (callFunc (opF op) args).run Tryz.prog w = .ok (.enter (opF op) args) w := by
 rcases (show op = 0 ∨ op = 1 ∨ op = 2 ∨ op = 3 ∨ op = 4 ∨ op = 5 ∨ op = 6 ∨ op = 7 ∨ op = 8 ∨ op = 9 ∨ op = 10 ∨ op = 11 ∨ op = 12 ∨ op = 13 ∨ op = 14 ∨ op = 15 ∨ op = 16 ∨ op = 17 ∨ op = 18 ∨ op = 19 ∨ op = 20 by omega) with rfl | rfl | rfl | rfl | rfl | rfl | rfl | rfl | rfl | rfl | rfl | rfl | rfl | rfl | rfl | rfl | rfl | rfl | rfl | rfl | rfl
 ·exact enters_of Tryz.func89 (by kernel_rfl) rfl args w
 ·exact enters_of Tryz.func90 (by kernel_rfl) rfl args w
 ·exact enters_of Tryz.func91 (by kernel_rfl) rfl args w
 ·exact enters_of Tryz.func92 (by kernel_rfl) rfl args w
 ·exact enters_of Tryz.func93 (by kernel_rfl) rfl args w
 ·exact enters_of Tryz.func94 (by kernel_rfl) rfl args w
 ·exact enters_of Tryz.func95 (by kernel_rfl) rfl args w
 ·exact enters_of Tryz.func96 (by kernel_rfl) rfl args w
 ·exact enters_of Tryz.func97 (by kernel_rfl) rfl args w
 ·exact enters_of Tryz.func98 (by kernel_rfl) rfl args w
 ·exact enters_of Tryz.func99 (by kernel_rfl) rfl args w
 ·exact enters_of Tryz.func100 (by kernel_rfl) rfl args w
 ·exact enters_of Tryz.func101 (by kernel_rfl) rfl args w
 ·exact enters_of Tryz.func102 (by kernel_rfl) rfl args w
 ·exact enters_of Tryz.func103 (by kernel_rfl) rfl args w
 ·exact enters_of Tryz.func104 (by kernel_rfl) rfl args w
 ·exact enters_of Tryz.func105 (by kernel_rfl) rfl args w
 ·exact enters_of Tryz.func106 (by kernel_rfl) rfl args w
 ·exact enters_of Tryz.func107 (by kernel_rfl) rfl args w
 ·exact enters_of Tryz.func108 (by kernel_rfl) rfl args w
 ·exact enters_of Tryz.func109 (by kernel_rfl) rfl args w
theorem doI_out (S : List Sec) (d : ByteArray) (x : Ins) (m : MS) : (doI S d x m).out.length ≤ m.out.length + 1 := by
 have hent : ∀ n (u : MS), u.out = m.out → (enterM S n u).out.length ≤ m.out.length + 1 := by
  intro n u h
  rw [(enterM_gas S n u).2.2.1, h]
  omega
 rcases op_cases x.op with o | o | o | o | o | o | o | o | o | o | o | o | o | o | o | o | o
 ·rw [doI_0 S d x m o]; simp
 ·rw [doI_1 S d x m o]; simp
 ·rw [doI_2 S d x m o]; simp
 ·rw [doI_3 S d x m o]; simp
 ·rw [doI_sum S d x m o]; simp
 ·rw [doI_9 S d x m o]; simp
 ·rw [doI_10 S d x m o]; simp
 ·rw [doI_11 S d x m o]; split <;> simp
 ·rw [doI_12 S d x m o]; split <;> simp
 ·rw [doI_13 S d x m o]; simp
 ·rw [doI_14 S d x m o]; simp
 ·rw [doI_15 S d x m o]; simp
 ·rw [doI_16 S d x m o]; simp
 ·rw [doI_17 S d x m o]; simp
 ·rw [doI_18 S d x m o]
  split
  ·simp
  ·exact hent _ _ rfl
 ·rw [doI_19 S d x m o]; simp
 ·rw [doI_20 S d x m o]; exact hent _ _ rfl
theorem rows_kp {w0 w : World} {B M : Nat} (h : RowsAt w0) (hk : Kp B M w0 w) (h0 : 0 < B) (hM : 0 ≠ M) : RowsAt w := by
 refine ⟨Nat.lt_of_lt_of_le h.1 hk.size, fun op ho => ?_⟩
 obtain ⟨a, b, c, d, e⟩ := h.2 op ho
 exact ⟨(hk.cell h0 hM _).trans a, (hk.cell h0 hM _).trans b, (hk.cell h0 hM _).trans c, (hk.cell h0 hM _).trans d, (hk.cell h0 hM _).trans e⟩
theorem leaves_tmps {P : Program} {fn : Func} {R : Ending → World → Prop} (hr : fn.results = #[]) (t1 t2 : Array Value) : ∀ (ds : List Deferred) (u : FrameMode) (w : World), Leaves P fn t1 R ds u w → Leaves P fn t2 R ds u w := by
 intro ds
 induction ds with
 | nil =>
  intro u w h
  cases u with
  | returning =>
   obtain ⟨v, h1, h2⟩ := h
   refine ⟨v, ?_, h2⟩
   rw [results_none hr] at h1 ⊢
   exact h1
  | panicking c => exact h
  | run => exact h
 | cons d ds ih =>
  intro u w h
  obtain ⟨h1, fv, cp, f, args, h2, h3, h4⟩ := h
  refine ⟨h1, fv, cp, f, args, h2, h3, h4.mono ?_⟩
  intro e u' w' h5
  cases e with
  | returned v => exact ih _ _ h5
  | panicked c => exact ih _ _ h5
  | outgrown => exact h5
theorem panic_put {P : Program} {fn : Func} {R : Ending → World → Prop} (hr : fn.results = #[]) {a : Act} {dst : Option Nat} {v : Value} {c : List PanicEntry} {w : World} (h : bodyPostD P fn R (Exit.panic c) (a.put dst v) w) : bodyPostD P fn R (Exit.panic c) a w := by
 have h' : Leaves P fn (a.put dst v).tmps R (a.put dst v).defers (.panicking c) w := h
 have hd : (a.put dst v).defers = a.defers := by cases dst <;> rfl
 rw [hd] at h'
 exact leaves_tmps hr _ _ _ _ _ h'
def gasC (w : World) (M : Nat) : Nat := match w.cell? ⟨M, 26, none⟩ with
 | some (.int _ z) => z.toNat
 | _ => 0
theorem m_run {w0 w : World} {M B : Nat} {F : Fix} {S : List Sec} {b off cap : Nat} (hSt : Stat w0 M B F S b off cap) (hC : CodesAt w0 M B F S) (hR : RowsAt w0) (h0B : 0 < B) (h0M : 0 ≠ M) (hS : Sound S) {m : MS} (h : MachX w0 w M B F m) (hg : Good S m) (ho : m.out.length ≤ m.steps) (hgas : m.steps + m.gas ≤ 3000) (hB : B ≤ w.heap.size) :
  Calls Tryz.prog 32 #[.pointer (some ⟨M, 0, none⟩), .func (.func 33) #[] #[]] w (RunPost w0 w M B F S m) := by
 have HM := hidc h
 have HG := hidc hg
 have HST := hidc hSt
 have HC := hidc hC
 have HR := hidc hR
 have HS := hidc hS
 have hlt : M < B := by obtain ⟨_, _, _, q⟩ := h; exact q.lt
 clear h hg hSt hC hR hS
 go_enter_defers Tryz.func32, Tryz.ntmps32
 go_wp2_with fail
 refine (mach_doings _).mono ?_
 rintro e w1 ⟨rfl, hb1⟩
 have HM1 := hidc (HM.out.below hb1 hB)
 have HK1 := hidc (KT.below hb1)
 have hs1 := hb1.size
 clear hb1
 go_wp2_with (refine wpList_store_row rfl 113 (.tmp 4) (.tmp 7) rfl w1.heap.size deedsA rfl rfl 113 zeroF (heap_alloc_new w1 _) (by kernel_rfl) (by kernel_rfl) (by kernel_rfl) ?_)
 have hmD := HM1.out.below (below_row (boxB w1 (.cells zeroF 113)) (Nat.le_refl _) deedsA) (by omega)
 have HRS : Hid (RunS w0 ((w1.alloc (.cells zeroF 113)).setRow w1.heap.size deedsA) M B w1.heap.size F S m m) := ⟨hmD, fun _ => HG.out, rfl, ho, hgas, setRow_heap _ _ _ _ _ _ (heap_alloc_new w1 _), by simp; omega⟩
 have HKD : Hid (KT w ((w1.alloc (.cells zeroF 113)).setRow w1.heap.size deedsA)) := HK1.out.trans (KT.below (below_row (boxB _ _) (Nat.le_refl _) _))
 have hszD : w.heap.size ≤ ((w1.alloc (.cells zeroF 113)).setRow w1.heap.size deedsA).heap.size := by simp; omega
 have hDw : w1.heap.size < ((w1.alloc (.cells zeroF 113)).setRow w1.heap.size deedsA).heap.size := by simp
 clear hmD HM1 HK1
 dsimp only [Act.put]
 go_loopw [8] (fun _ wk => ∃ mk : MS, Hid (RunS w0 wk M B w1.heap.size F S m mk) ∧ Hid (KT w wk) ∧ Hid (w.heap.size ≤ wk.heap.size)) (fun _ wk => gasC wk M)
 case atStart => exact ⟨m, HRS.out, HKD.out, hszD⟩
 case round =>
  clear HRS HKD hszD hDw
  obtain ⟨mk, HRS, HKW, HSZ⟩ := hrel
  have hszr := HSZ.out
  obtain ⟨frV, stV, outV, hmach⟩ := HRS.out.mach
  have c28 := hmach.c28
  have hMr := hmach.size
  cases hfin : mk.fin.isSome with
  | true =>
   rw [hfin] at c28
   have HF := hidc hfin
   clear hmach hfin
   go_wp2_with fail
   refine leaves_cons (f := 53) (args := #[.pointer (some ⟨M, 0, none⟩)]) (by simp) (by simp [go_sem]) ?_
   refine (m_settle HRS.out.mach HRS.out.size HF.out .returning).mono ?_
   rintro e u' w'' ⟨rfl, rfl, hm, hB2, hk, hs⟩
   have HM2 := hidc hm
   have HK2 := hidc hk
   clear hm hk
   exact ⟨_, results_none Tryz.results32 _ _ _, rfl, by rw [← HRS.out.fate, fate_done HF.out]; exact HM2.out, hB2, HKW.out.trans HK2.out, by omega⟩
  | false =>
   rw [hfin] at c28
   have hnone : mk.fin = none := by simpa using hfin
   have HGO := hidc (HRS.out.good hnone)
   have hND := HRS.out.does
   have NOW := hidc (atH_now HS.out HGO.out.here)
   have hsl : mk.sec < S.length := NOW.out.lt
   obtain ⟨gc, cc, hcv, hgcB, hgcM, hall⟩ := HC.out.ex
   obtain ⟨g, c, hsc, hgB2, hgM, hcells⟩ := hall mk.sec hsl
   obtain ⟨_, i0, x0, o0, hx0, hpl0, _⟩ := HGO.out.here
   have hxe : x0 = nowI S mk := by
    have := chain_ins (HS.out.chain hsl) i0 x0 hx0
    rw [this, hpl0]
    show _ = insI (codeS S mk.sec) mk.pl
    rw [codeS_get S mk.sec hsl]
   obtain ⟨q0, q1, q2, q3, ta, tc, q4, hT⟩ := hcells i0 x0 hx0
   have hpc : mk.pl < S[mk.sec].code.size := NOW.out.plt
   have htos := NOW.out.to
   rw [hpl0] at q0 q1 q2 q3 q4
   have hop : (nowI S mk).op < 21 := NOW.out.op
   have htoT : ∀ (j : Nat) (t : Int), (nowI S mk).to[j]? = some t → 0 ≤ t ∧ ∃ q, ta = some ⟨q, 0, none⟩ ∧ q < B ∧ q ≠ M ∧ w0.cell? ⟨q, j, none⟩ = some (.int .i64 t) := by
    intro j t hj
    refine ⟨(htos t (List.mem_of_getElem? hj)).1, ?_⟩
    rw [← hxe] at hj
    exact hT j t hj
   subst hxe
   have hplx : (nowI S mk).pl = mk.pl := rfl
   have HTO := hidc htoT
   have hgs : g < wr.heap.size := by have := HRS.out.size; omega
   have hgcs : gc < wr.heap.size := by have := HRS.out.size; omega
   have r0 := (hmach.kp.cell hgB2 hgM _).trans q0
   have r1 := (hmach.kp.cell hgB2 hgM _).trans q1
   have r2 := (hmach.kp.cell hgB2 hgM _).trans q2
   have r3 := (hmach.kp.cell hgB2 hgM _).trans q3
   have r4 := (hmach.kp.cell hgB2 hgM _).trans q4
   have rc := (hmach.kp.cell hgcB hgcM mk.sec).trans hsc
   have c2 := hmach.c2
   rw [hcv] at c2
   have c3 := hmach.c3
   have c4 := hmach.c4
   clear hall hcells hT htos htoT q0 q1 q2 q3 q4 hx0 hpl0 hfin
   have HMA := hidc hmach
   clear hmach
   generalize hxg : nowI S mk = x at *
   have HXG := hidc hxg
   clear hxg
   have HPL := hidc hplx
   clear hplx
   generalize hcs : S[mk.sec].code.size = csz at *
   clear hcs
   go_wp2_with fail
   have hd : ∀ b i, wr.drew.cell? ⟨b, i, none⟩ = wr.cell? ⟨b, i, none⟩ := fun _ _ => rfl
   refine wp_region_held_drew (S := fun w' => w'.cell? ⟨M, 2, none⟩ = some (.slice (some ⟨gc, 0, none⟩) S.length cc) ∧ w'.cell? ⟨M, 3, none⟩ = some (.int .i64 (mk.sec : Nat)) ∧ w'.cell? ⟨M, 4, none⟩ = some (.int .i64 (mk.pl : Nat)) ∧ w'.cell? ⟨gc, mk.sec, none⟩ = some (.slice (some ⟨g, 0, none⟩) csz c) ∧ w'.cell? ⟨g, mk.pl * 5, none⟩ = some (.int .i64 x.op) ∧ w'.cell? ⟨g, mk.pl * 5 + 1, none⟩ = some (.int .i64 mk.pl) ∧ w'.cell? ⟨g, mk.pl * 5 + 2, none⟩ = some (.int .i64 x.nx) ∧ w'.cell? ⟨g, mk.pl * 5 + 3, none⟩ = some (.int .i64 x.n) ∧ w'.cell? ⟨g, mk.pl * 5 + 4, none⟩ = some (.slice ta x.to.length tc)) (by kernel_rfl) ⟨c2, c3, c4, rc, r0, r1, r2, r3, r4⟩ (fun hHeld => ?_)
   refine wpAnyH_take (i := 0) (v := ?va0) rfl (by kernel_rfl) (by kernel_rfl) (by kernel_rfl) (fun _ _ _ h => panic_put (fn := Tryz.f32) (R := RunPost w0 w M B F S m) Tryz.results32 h) (Or.inl ⟨by rfl, ?hya0⟩) hHeld ?resta0
   case hya0 => rintro w ⟨s1, s2, s3, s4, s5, s6, s7, s8, s9⟩; go_simp; try with_reducible rfl
   simp only [Act.put, aA, aB, aC, aD, aE]
   refine wpAnyH_take (i := 1) (v := ?va1) rfl (by kernel_rfl) (by kernel_rfl) (by kernel_rfl) (fun _ _ _ h => panic_put (fn := Tryz.f32) (R := RunPost w0 w M B F S m) Tryz.results32 h) (Or.inl ⟨by rfl, ?hya1⟩) hHeld ?resta1
   case hya1 => rintro w ⟨s1, s2, s3, s4, s5, s6, s7, s8, s9⟩; go_simp; try with_reducible rfl
   simp only [Act.put, aA, aB, aC, aD, aE, aF]
   refine wpAnyH_take (i := 2) (v := ?va2) rfl (by kernel_rfl) (by kernel_rfl) (by kernel_rfl) (fun _ _ _ h => panic_put (fn := Tryz.f32) (R := RunPost w0 w M B F S m) Tryz.results32 h) (Or.inl ⟨by rfl, ?hya2⟩) hHeld ?resta2
   case hya2 => rintro w ⟨s1, s2, s3, s4, s5, s6, s7, s8, s9⟩; go_simp; try with_reducible rfl
   simp only [Act.put, aA, aB, aC, aD, aE, aF]
   refine wpAnyH_take (i := 3) (v := ?va3) rfl (by kernel_rfl) (by kernel_rfl) (by kernel_rfl) (fun _ _ _ h => panic_put (fn := Tryz.f32) (R := RunPost w0 w M B F S m) Tryz.results32 h) (Or.inl ⟨by rfl, ?hya3⟩) hHeld ?resta3
   case hya3 => rintro w ⟨s1, s2, s3, s4, s5, s6, s7, s8, s9⟩; go_simp; try with_reducible rfl
   simp only [Act.put, aA, aB, aC, aD, aE, aF]
   refine wpAnyH_take (i := 4) (v := ?va4) rfl (by kernel_rfl) (by kernel_rfl) (by kernel_rfl) (fun _ _ _ h => panic_put (fn := Tryz.f32) (R := RunPost w0 w M B F S m) Tryz.results32 h) (Or.inl ⟨by rfl, ?hya4⟩) hHeld ?resta4
   case hya4 => rintro w ⟨s1, s2, s3, s4, s5, s6, s7, s8, s9⟩; go_simp; try with_reducible rfl
   simp only [Act.put, aA, aB, aC, aD, aE, aF]
   refine wpAnyH_take (i := 5) (v := ?va5) rfl (by kernel_rfl) (by kernel_rfl) (by kernel_rfl) (fun _ _ _ h => panic_put (fn := Tryz.f32) (R := RunPost w0 w M B F S m) Tryz.results32 h) (Or.inl ⟨by rfl, ?hya5⟩) hHeld ?resta5
   case hya5 => rintro w ⟨s1, s2, s3, s4, s5, s6, s7, s8, s9⟩; go_simp; try with_reducible rfl
   simp only [Act.put, aA, aB, aC, aD, aE, aF]
   refine wpAnyH_take (i := 6) (v := ?va6) rfl (by kernel_rfl) (by kernel_rfl) (by kernel_rfl) (fun _ _ _ h => panic_put (fn := Tryz.f32) (R := RunPost w0 w M B F S m) Tryz.results32 h) (Or.inl ⟨by rfl, ?hya6⟩) hHeld ?resta6
   case hya6 => rintro w ⟨s1, s2, s3, s4, s5, s6, s7, s8, s9⟩; go_simp; try with_reducible rfl
   simp only [Act.put, aA, aB, aC, aD, aE, aF]
   refine wpAnyH_take (i := 7) (v := ?va7) rfl (by kernel_rfl) (by kernel_rfl) (by kernel_rfl) (fun _ _ _ h => panic_put (fn := Tryz.f32) (R := RunPost w0 w M B F S m) Tryz.results32 h) (Or.inl ⟨by rfl, ?hya7⟩) hHeld ?resta7
   case hya7 => rintro w ⟨s1, s2, s3, s4, s5, s6, s7, s8, s9⟩; go_simp; try with_reducible rfl
   simp only [Act.put, aA, aB, aC, aD, aE, aF]
   refine wpAnyH_take (i := 8) (v := ?va8) rfl (by kernel_rfl) (by kernel_rfl) (by kernel_rfl) (fun _ _ _ h => panic_put (fn := Tryz.f32) (R := RunPost w0 w M B F S m) Tryz.results32 h) (Or.inl ⟨by rfl, ?hya8⟩) hHeld ?resta8
   case hya8 => rintro w ⟨s1, s2, s3, s4, s5, s6, s7, s8, s9⟩; go_simp; try with_reducible rfl
   simp only [Act.put, aA, aB, aC, aD, aE, aF]
   refine wpAnyH_take (i := 9) (v := ?va9) rfl (by kernel_rfl) (by kernel_rfl) (by kernel_rfl) (fun _ _ _ h => panic_put (fn := Tryz.f32) (R := RunPost w0 w M B F S m) Tryz.results32 h) (Or.inl ⟨by rfl, ?hya9⟩) hHeld ?resta9
   case hya9 => rintro w ⟨s1, s2, s3, s4, s5, s6, s7, s8, s9⟩; go_simp; try with_reducible rfl
   simp only [Act.put, aA, aB, aC, aD, aE, aF]
   refine wpAnyH_take (i := 10) (v := ?va10) rfl (by kernel_rfl) (by kernel_rfl) (by kernel_rfl) (fun _ _ _ h => panic_put (fn := Tryz.f32) (R := RunPost w0 w M B F S m) Tryz.results32 h) (Or.inl ⟨by rfl, ?hya10⟩) hHeld ?resta10
   case hya10 => rintro w ⟨s1, s2, s3, s4, s5, s6, s7, s8, s9⟩; go_simp; try with_reducible rfl
   simp only [Act.put, aA, aB, aC, aD, aE, aF]
   refine wpAnyH_take (i := 11) (v := ?va11) rfl (by kernel_rfl) (by kernel_rfl) (by kernel_rfl) (fun _ _ _ h => panic_put (fn := Tryz.f32) (R := RunPost w0 w M B F S m) Tryz.results32 h) (Or.inl ⟨by rfl, ?hya11⟩) hHeld ?resta11
   case hya11 => rintro w ⟨s1, s2, s3, s4, s5, s6, s7, s8, s9⟩; go_simp; try with_reducible rfl
   simp only [Act.put, aA, aB, aC, aD, aE, aF]
   refine wpAnyH_take (i := 12) (v := ?va12) rfl (by kernel_rfl) (by kernel_rfl) (by kernel_rfl) (fun _ _ _ h => panic_put (fn := Tryz.f32) (R := RunPost w0 w M B F S m) Tryz.results32 h) (Or.inl ⟨by rfl, ?hya12⟩) hHeld ?resta12
   case hya12 => rintro w ⟨s1, s2, s3, s4, s5, s6, s7, s8, s9⟩; go_simp; try with_reducible rfl
   simp only [Act.put, aA, aB, aC, aD, aE, aF]
   refine wpAnyH_take (i := 13) (v := ?va13) rfl (by kernel_rfl) (by kernel_rfl) (by kernel_rfl) (fun _ _ _ h => panic_put (fn := Tryz.f32) (R := RunPost w0 w M B F S m) Tryz.results32 h) (Or.inl ⟨by rfl, ?hya13⟩) hHeld ?resta13
   case hya13 => rintro w ⟨s1, s2, s3, s4, s5, s6, s7, s8, s9⟩; go_simp; try with_reducible rfl
   simp only [Act.put, aA, aB, aC, aD, aE, aF]
   refine wpAnyH_take (i := 14) (v := ?va14) rfl (by kernel_rfl) (by kernel_rfl) (by kernel_rfl) (fun _ _ _ h => panic_put (fn := Tryz.f32) (R := RunPost w0 w M B F S m) Tryz.results32 h) (Or.inl ⟨by rfl, ?hya14⟩) hHeld ?resta14
   case hya14 => rintro w ⟨s1, s2, s3, s4, s5, s6, s7, s8, s9⟩; go_simp; try with_reducible rfl
   simp only [Act.put, aA, aB, aC, aD, aE, aF]
   refine wpAnyH_take (i := 15) (v := ?va15) rfl (by kernel_rfl) (by kernel_rfl) (by kernel_rfl) (fun _ _ _ h => panic_put (fn := Tryz.f32) (R := RunPost w0 w M B F S m) Tryz.results32 h) (Or.inl ⟨by rfl, ?hya15⟩) hHeld ?resta15
   case hya15 => rintro w ⟨s1, s2, s3, s4, s5, s6, s7, s8, s9⟩; go_simp; try with_reducible rfl
   simp only [Act.put, aA, aB, aC, aD, aE, aF]
   refine wpAnyH_take (i := 16) (v := ?va16) rfl (by kernel_rfl) (by kernel_rfl) (by kernel_rfl) (fun _ _ _ h => panic_put (fn := Tryz.f32) (R := RunPost w0 w M B F S m) Tryz.results32 h) (Or.inl ⟨by rfl, ?hya16⟩) hHeld ?resta16
   case hya16 => rintro w ⟨s1, s2, s3, s4, s5, s6, s7, s8, s9⟩; go_simp; try with_reducible rfl
   simp only [Act.put, aA, aB, aC, aD, aE, aF]
   refine wpAnyH_take (i := 17) (v := ?va17) rfl (by kernel_rfl) (by kernel_rfl) (by kernel_rfl) (fun _ _ _ h => panic_put (fn := Tryz.f32) (R := RunPost w0 w M B F S m) Tryz.results32 h) (Or.inl ⟨by rfl, ?hya17⟩) hHeld ?resta17
   case hya17 => rintro w ⟨s1, s2, s3, s4, s5, s6, s7, s8, s9⟩; go_simp; try with_reducible rfl
   simp only [Act.put, aA, aB, aC, aD, aE, aF]
   refine rd 18 rfl (fun K hK => ?_)
   simp only [aD, aE, aF]
   go_simp
   refine hK.out _ _ ?hS18 (fun hHeld => ?_)
   case hS18 =>
    obtain ⟨s1, s2, s3, s4, s5, s6, s7, s8, s9⟩ := hHeld
    exact ⟨(cell_al _ (by show _ < wr.heap.size; omega)).trans s1, (cell_al _ (by show _ < wr.heap.size; omega)).trans s2, (cell_al _ (by show _ < wr.heap.size; omega)).trans s3, (cell_al _ (by show _ < wr.heap.size; omega)).trans s4, (cell_al _ (by show _ < wr.heap.size; omega)).trans s5, (cell_al _ (by show _ < wr.heap.size; omega)).trans s6, (cell_al _ (by show _ < wr.heap.size; omega)).trans s7, (cell_al _ (by show _ < wr.heap.size; omega)).trans s8, (cell_al _ (by show _ < wr.heap.size; omega)).trans s9⟩
   clear hK
   refine rd 19 rfl (fun K hK => ?_)
   simp only [aD, aE, aF]
   go_simp
   refine hK.out _ _ ?hS19 (fun hHeld => ?_)
   case hS19 =>
    exact ⟨(cell_al _ (by omega)).trans c2, (cell_al _ (by omega)).trans c3, (cell_al _ (by omega)).trans c4, (cell_al _ (by omega)).trans rc, (cell_al _ (by omega)).trans r0, (cell_al _ (by omega)).trans r1, (cell_al _ (by omega)).trans r2, (cell_al _ (by omega)).trans r3, (cell_al _ (by omega)).trans r4⟩
   clear hK
   refine wpAnyH_done (by kernel_rfl) ?_ _
   clear hHeld c2 c3 c4 rc r0 r1 r2 r3 r4 hd
   have kB : (wr.alloc (.cells #[.int .i64 x.op, .int .i64 mk.pl, .int .i64 x.nx, .int .i64 x.n, .slice ta x.to.length tc] 116)).drew.heap[wr.heap.size]? = some (.cells #[.int .i64 x.op, .int .i64 mk.pl, .int .i64 x.nx, .int .i64 x.n, .slice ta x.to.length tc] 116 (0, 0)) := heap_alloc_new wr _
   have hma := HMA.out.below ((boxB wr (.cells #[.int .i64 x.op, .int .i64 mk.pl, .int .i64 x.nx, .int .i64 x.n, .slice ta x.to.length tc] 116)).drew) HRS.out.size
   have HKA : Hid (KT wr (wr.alloc (.cells #[.int .i64 x.op, .int .i64 mk.pl, .int .i64 x.nx, .int .i64 x.n, .slice ta x.to.length tc] 116)).drew) := KT.below ((boxB _ _).drew)
   have hsa : wr.heap.size + 1 = (wr.alloc (.cells #[.int .i64 x.op, .int .i64 mk.pl, .int .i64 x.nx, .int .i64 x.n, .slice ta x.to.length tc] 116)).drew.heap.size := by simp
   generalize (wr.alloc (.cells #[.int .i64 x.op, .int .i64 mk.pl, .int .i64 x.nx, .int .i64 x.n, .slice ta x.to.length tc] 116)).drew = wa at *
   have hBr := HRS.out.size
   have HRA := hidc (rows_kp HR.out hma.kp h0B h0M)
   have b0 : wa.cell? ⟨wr.heap.size, 0, none⟩ = some (.int .i64 x.op) := by rw [cell_of_block kB]; rfl
   have b1 : wa.cell? ⟨wr.heap.size, 1, none⟩ = some (.int .i64 mk.pl) := by rw [cell_of_block kB]; rfl
   have b2 : wa.cell? ⟨wr.heap.size, 2, none⟩ = some (.int .i64 x.nx) := by rw [cell_of_block kB]; rfl
   have b3 : wa.cell? ⟨wr.heap.size, 3, none⟩ = some (.int .i64 x.n) := by rw [cell_of_block kB]; rfl
   have b4 : wa.cell? ⟨wr.heap.size, 4, none⟩ = some (.slice ta x.to.length tc) := by rw [cell_of_block kB]; rfl
   have c26 := hma.c26
   have HMa := hidc hma
   have HKB := hidc kB
   have hMa := hma.size
   clear hma kB HMA
   go_wp2_with fail
   refine wp_region_held_drew (S := fun w' => w'.cell? ⟨wr.heap.size, 0, none⟩ = some (.int .i64 x.op) ∧ w'.cell? ⟨wr.heap.size, 1, none⟩ = some (.int .i64 mk.pl) ∧ w'.cell? ⟨wr.heap.size, 2, none⟩ = some (.int .i64 x.nx) ∧ w'.cell? ⟨wr.heap.size, 3, none⟩ = some (.int .i64 x.n) ∧ w'.cell? ⟨wr.heap.size, 4, none⟩ = some (.slice ta x.to.length tc) ∧ w'.cell? ⟨M, 26, none⟩ = some (.int .i64 (mk.gas : Nat))) (by kernel_rfl) ⟨b0, b1, b2, b3, b4, c26⟩ (fun hHeld => ?_)
   refine wpAnyH_take (i := 0) (v := ?vc0) rfl (by kernel_rfl) (by kernel_rfl) (by kernel_rfl) (fun _ _ _ h => panic_put (fn := Tryz.f32) (R := RunPost w0 w M B F S m) Tryz.results32 h) (Or.inl ⟨by rfl, ?hyc0⟩) hHeld ?restc0
   case hyc0 => rintro w ⟨s1, s2, s3, s4, s5, s6⟩; go_simp; try with_reducible rfl
   simp only [Act.put, aA, aB, aC, aD, aE]
   refine wpAnyH_take (i := 2) (v := ?vc2) rfl (by kernel_rfl) (by kernel_rfl) (by kernel_rfl) (fun _ _ _ h => panic_put (fn := Tryz.f32) (R := RunPost w0 w M B F S m) Tryz.results32 h) (Or.inl ⟨by rfl, ?hyc2⟩) hHeld ?restc2
   case hyc2 => rintro w ⟨s1, s2, s3, s4, s5, s6⟩; go_simp; try with_reducible rfl
   simp only [Act.put, aA, aB, aC, aD, aE, aF]
   refine wpAnyH_take (i := 3) (v := ?vc3) rfl (by kernel_rfl) (by kernel_rfl) (by kernel_rfl) (fun _ _ _ h => panic_put (fn := Tryz.f32) (R := RunPost w0 w M B F S m) Tryz.results32 h) (Or.inl ⟨by rfl, ?hyc3⟩) hHeld ?restc3
   case hyc3 => rintro w ⟨s1, s2, s3, s4, s5, s6⟩; go_simp; try with_reducible rfl
   simp only [Act.put, aA, aB, aC, aD, aE, aF]
   refine wpAnyH_take (i := 4) (v := ?vc4) rfl (by kernel_rfl) (by kernel_rfl) (by kernel_rfl) (fun _ _ _ h => panic_put (fn := Tryz.f32) (R := RunPost w0 w M B F S m) Tryz.results32 h) (Or.inl ⟨by rfl, ?hyc4⟩) hHeld ?restc4
   case hyc4 => rintro w ⟨s1, s2, s3, s4, s5, s6⟩; go_simp; try with_reducible rfl
   simp only [Act.put, aA, aB, aC, aD, aE, aF]
   refine wpAnyH_take (i := 5) (v := ?vc5) rfl (by kernel_rfl) (by kernel_rfl) (by kernel_rfl) (fun _ _ _ h => panic_put (fn := Tryz.f32) (R := RunPost w0 w M B F S m) Tryz.results32 h) (Or.inl ⟨by rfl, ?hyc5⟩) hHeld ?restc5
   case hyc5 => rintro w ⟨s1, s2, s3, s4, s5, s6⟩; go_simp; try with_reducible rfl
   simp only [Act.put, aA, aB, aC, aD, aE, aF]
   refine wpAnyH_take (i := 6) (v := ?vc6) rfl (by kernel_rfl) (by kernel_rfl) (by kernel_rfl) (fun _ _ _ h => panic_put (fn := Tryz.f32) (R := RunPost w0 w M B F S m) Tryz.results32 h) (Or.inl ⟨by rfl, ?hyc6⟩) hHeld ?restc6
   case hyc6 => rintro w ⟨s1, s2, s3, s4, s5, s6⟩; go_simp; try with_reducible rfl
   simp only [Act.put, aA, aB, aC, aD, aE, aF]
   refine rd 1 rfl (fun K hK => ?_)
   simp only [aD, aE, aF]
   go_simp
   go_at_call 55
   refine (insn_cost ⟨x.op, mk.pl, x.nx, x.n, x.to⟩ (.slice ta x.to.length tc) _ (HRA.out.below (by omega) ((Below.refl wa.heap.size wa).drew)) hop).mono ?_
   rintro e wb ⟨rfl, hbb⟩
   go_wp2_with fail
   have hbb' : Below wa.heap.size wa wb := ((Below.refl wa.heap.size wa).drew).trans hbb
   refine hK.out _ _ ?hS4 (fun hHeld => ?_)
   case hS4 =>
    have hc := fun g i (h : g < wa.heap.size) => (bcell hbb').1 g i h
    exact ⟨(hc _ _ (by omega)).trans b0, (hc _ _ (by omega)).trans b1, (hc _ _ (by omega)).trans b2, (hc _ _ (by omega)).trans b3, (hc _ _ (by omega)).trans b4, (hc _ _ hMa).trans c26⟩
   clear hK
   have HMb := hidc (HMa.out.below hbb' (by omega))
   have HKb := hidc (HKA.out.trans (KT.below hbb'))
   have HBb := hidc (keepB hbb' HKB.out)
   have HRB := hidc (HRA.out.below (by omega) hbb')
   have hsb : wr.heap.size + 1 ≤ wb.heap.size := by have := hbb'.size; omega
   clear hbb hbb' b0 b1 b2 b3 b4 c26 HMa HKA HKB HRA hsa
   refine wpAnyH_take (i := 7) (v := ?vd7) rfl (by kernel_rfl) (by kernel_rfl) (by kernel_rfl) (fun _ _ _ h => panic_put (fn := Tryz.f32) (R := RunPost w0 w M B F S m) Tryz.results32 h) (Or.inl ⟨by rfl, ?hyd7⟩) hHeld ?restd7
   case hyd7 => rintro w ⟨s1, s2, s3, s4, s5, s6⟩; go_simp; try with_reducible rfl
   simp only [Act.put, aA, aB, aC, aD, aE, aF]
   refine wpAnyH_done (by kernel_rfl) ?_ _
   obtain ⟨b0, b1, b2, b3, b4, c26⟩ := hHeld
   by_cases hge : mk.gas < costT x.op
   ·have HST2 : Hid (stepM S F.d mk = { mk with fin := some 2 }) := by
     show stepM S F.d mk = { mk with fin := some 2 }
     unfold stepM
     rw [HXG.out, if_pos hge]
    have HFT : Hid (fateM S F.d m = { mk with fin := some 2 }) := by
     show fateM S F.d m = { mk with fin := some 2 }
     rw [← HRS.out.fate, fate_step hnone, HST2.out]
     exact fate_done rfl
    have hge' : (mk.gas : Int) < (costT x.op : Int) := by omega
    generalize costT x.op = ct at *
    clear b0 b1 b2 b3 b4
    go_wp2_with fail
    refine (m_end (v := 2) ⟨_, _, _, HMb.out⟩ (by omega)).mono ?_
    rintro e w3 ⟨rfl, hm, hB3, hk, hs3⟩
    have HM3 := hidc hm
    have HK3 := hidc hk
    clear hm hk
    go_wp2_with fail
    refine leaves_cons (f := 53) (args := #[.pointer (some ⟨M, 0, none⟩)]) (by simp) (by simp [go_sem]) ?_
    refine (m_settle HM3.out hB3 rfl .returning).mono ?_
    rintro e u' w'' ⟨rfl, rfl, hm, hB4, hk, hs4⟩
    have HM4 := hidc hm
    have HK4 := hidc hk
    clear hm hk
    exact ⟨_, results_none Tryz.results32 _ _ _, rfl, by rw [HFT.out]; exact HM4.out, hB4, HKW.out.trans (HKb.out.trans (HK3.out.trans HK4.out)), by omega⟩
   ·have hge' : ¬ (mk.gas : Int) < (costT x.op : Int) := by omega
    have hctp := costT_pos x.op
    have HST2 : Hid (stepM S F.d mk = doI S F.d x (paidM x mk)) := by
     show stepM S F.d mk = doI S F.d x (paidM x mk)
     unfold stepM
     rw [HXG.out, if_neg hge]
    generalize hctg : costT x.op = ct at *
    have HCT := hidc hctg
    clear hctg
    have hgn : (mk.gas : Int) - ct = ((mk.gas - ct : Nat) : Int) := by omega
    have HGN := hidc hgn
    clear hgn
    have hwg : IntKind.i64.wrap ((mk.gas : Int) - ct) = (mk.gas : Int) - ct := by have := HRS.out.gas; rw [IntKind.wrap_i64]; omega
    go_wp2_with fail
    refine wp_region_held_drew (S := fun w' => w'.cell? ⟨wr.heap.size, 0, none⟩ = some (.int .i64 x.op) ∧ w'.cell? ⟨wr.heap.size, 1, none⟩ = some (.int .i64 mk.pl) ∧ w'.cell? ⟨wr.heap.size, 2, none⟩ = some (.int .i64 x.nx) ∧ w'.cell? ⟨wr.heap.size, 3, none⟩ = some (.int .i64 x.n) ∧ w'.cell? ⟨wr.heap.size, 4, none⟩ = some (.slice ta x.to.length tc)) (by kernel_rfl) ⟨b0, b1, b2, b3, b4⟩ (fun hHeld => ?_)
    have c26d : wb.drew.cell? ⟨M, 26, none⟩ = some (.int .i64 (mk.gas : Nat)) := c26
    have hMb : M < wb.heap.size := by have := HMb.out.size; exact this
    refine wpAnyH_take (i := 0) (v := ?vf0) rfl (by kernel_rfl) (by kernel_rfl) (by kernel_rfl) (fun _ _ _ h => panic_put (fn := Tryz.f32) (R := RunPost w0 w M B F S m) Tryz.results32 h) (Or.inl ⟨by rfl, ?hyf0⟩) hHeld ?restf0
    case hyf0 => rintro w ⟨s1, s2, s3, s4, s5⟩; go_simp; try with_reducible rfl
    simp only [Act.put, aA, aB, aC, aD, aE]
    refine wpAnyH_take (i := 1) (v := ?vf1) rfl (by kernel_rfl) (by kernel_rfl) (by kernel_rfl) (fun _ _ _ h => panic_put (fn := Tryz.f32) (R := RunPost w0 w M B F S m) Tryz.results32 h) (Or.inl ⟨by rfl, ?hyf1⟩) hHeld ?restf1
    case hyf1 => rintro w ⟨s1, s2, s3, s4, s5⟩; go_simp; try with_reducible rfl
    simp only [Act.put, aA, aB, aC, aD, aE, aF]
    refine wpAnyH_take (i := 2) (v := ?vf2) rfl (by kernel_rfl) (by kernel_rfl) (by kernel_rfl) (fun _ _ _ h => panic_put (fn := Tryz.f32) (R := RunPost w0 w M B F S m) Tryz.results32 h) (Or.inl ⟨by rfl, ?hyf2⟩) hHeld ?restf2
    case hyf2 => rintro w ⟨s1, s2, s3, s4, s5⟩; go_simp; try with_reducible rfl
    simp only [Act.put, aA, aB, aC, aD, aE, aF]
    refine wpAnyH_take (i := 3) (v := ?vf3) rfl (by kernel_rfl) (by kernel_rfl) (by kernel_rfl) (fun _ _ _ h => panic_put (fn := Tryz.f32) (R := RunPost w0 w M B F S m) Tryz.results32 h) (Or.inl ⟨by rfl, ?hyf3⟩) hHeld ?restf3
    case hyf3 => rintro w ⟨s1, s2, s3, s4, s5⟩; go_simp; try with_reducible rfl
    simp only [Act.put, aA, aB, aC, aD, aE, aF]
    refine wpAnyH_take (i := 5) (v := ?vf5) rfl (by kernel_rfl) (by kernel_rfl) (by kernel_rfl) (fun _ _ _ h => panic_put (fn := Tryz.f32) (R := RunPost w0 w M B F S m) Tryz.results32 h) (Or.inl ⟨by rfl, ?hyf5⟩) hHeld ?restf5
    case hyf5 => rintro w ⟨s1, s2, s3, s4, s5⟩; go_simp; try with_reducible rfl
    simp only [Act.put, aA, aB, aC, aD, aE, aF]
    refine wpAnyH_ready (rs := [4, 6]) (by kernel_rfl) (by simp) ?_
    refine AllReadyH.cons (i := 4) rfl (fun K hK => ?gfour) (AllReadyH.cons (i := 6) rfl (fun K hK => ?gsix) AllReadyH.nil)
    case gfour =>
     simp only [aD, aE, aF]
     go_simp
     refine hK.out _ _ hHeld (fun hHeld => ?_)
     clear hK
     refine rd 6 rfl (fun K hK => ?_)
     simp only [aD, aE, aF]
     go_simp
     go_at_call 55
     refine (insn_cost ⟨x.op, mk.pl, x.nx, x.n, x.to⟩ (.slice ta x.to.length tc) _ (HRB.out.below (by omega) ((Below.refl wb.heap.size wb).drew)) hop).mono ?_
     rw [HCT.out]
     rintro e wc ⟨rfl, hbc⟩
     go_wp2_with fail
     have hbc' : Below wb.heap.size wb wc := ((Below.refl wb.heap.size wb).drew).trans hbc
     have hcc := fun g i (h : g < wb.heap.size) => (bcell hbc').1 g i h
     refine hK.out _ _ ⟨(hcc _ _ (by omega)).trans b0, (hcc _ _ (by omega)).trans b1, (hcc _ _ (by omega)).trans b2, (hcc _ _ (by omega)).trans b3, (hcc _ _ (by omega)).trans b4⟩ (fun hHeld => ?_)
     clear hK
     have hmc := HMb.out.below hbc' (by omega)
     have c26c := hmc.c26
     have f26c := hmc.froz 26
     have HMc := hidc hmc
     have HKc := hidc (HKb.out.trans (KT.below hbc'))
     have HBc := hidc (keepB hbc' HBb.out)
     have hsc2 : wr.heap.size + 1 ≤ wc.heap.size := by have := hbc'.size; omega
     have hMc := hmc.size
     clear hbc hbc' hcc hmc
     refine wpAnyH_take (i := 7) (v := .int .i64 ((mk.gas : Int) - ct)) rfl (by kernel_rfl) (by kernel_rfl) (by kernel_rfl) (fun _ _ _ h => panic_put (fn := Tryz.f32) (R := RunPost w0 w M B F S m) Tryz.results32 h) (Or.inl ⟨by rfl, ?hypg7⟩) hHeld ?restpg7
     case hypg7 => rintro w ⟨s1, s2, s3, s4, s5⟩; go_simp; try with_reducible rfl
     simp only [Act.put, aA, aB, aC, aD, aE, aF]
     refine wpAnyH_take (i := 8) (v := ?vpg8) rfl (by kernel_rfl) (by kernel_rfl) (by kernel_rfl) (fun _ _ _ h => panic_put (fn := Tryz.f32) (R := RunPost w0 w M B F S m) Tryz.results32 h) (Or.inl ⟨by rfl, ?hypg8⟩) hHeld ?restpg8
     case hypg8 => rintro w ⟨s1, s2, s3, s4, s5⟩; go_simp; try with_reducible rfl
     simp only [Act.put, aA, aB, aC, aD, aE, aF]
     refine wpAnyH_take (i := 9) (v := ?vpg9) rfl (by kernel_rfl) (by kernel_rfl) (by kernel_rfl) (fun _ _ _ h => panic_put (fn := Tryz.f32) (R := RunPost w0 w M B F S m) Tryz.results32 h) (Or.inl ⟨by rfl, ?hypg9⟩) hHeld ?restpg9
     case hypg9 => rintro w ⟨s1, s2, s3, s4, s5⟩; go_simp; try with_reducible rfl
     simp only [Act.put, aA, aB, aC, aD, aE, aF]
     refine wpAnyH_take (i := 10) (v := ?vpg10) rfl (by kernel_rfl) (by kernel_rfl) (by kernel_rfl) (fun _ _ _ h => panic_put (fn := Tryz.f32) (R := RunPost w0 w M B F S m) Tryz.results32 h) (Or.inl ⟨by rfl, ?hypg10⟩) hHeld ?restpg10
     case hypg10 => rintro w ⟨s1, s2, s3, s4, s5⟩; go_simp; try with_reducible rfl
     simp only [Act.put, aA, aB, aC, aD, aE, aF]
     refine rd 11 rfl (fun K hK => ?_)
     simp only [aD, aE, aF]
     go_simp
     refine hK.out _ _ ⟨(set_other _ (by omega)).trans hHeld.1, (set_other _ (by omega)).trans hHeld.2.1, (set_other _ (by omega)).trans hHeld.2.2.1, (set_other _ (by omega)).trans hHeld.2.2.2.1, (set_other _ (by omega)).trans hHeld.2.2.2.2⟩ (fun hHeld => ?_)
     clear hK
     refine wpAnyH_done (by kernel_rfl) ?_ _
     clear hHeld c26 b0 b1 b2 b3 b4 c26d c26c f26c
     have hm6 := HMc.out.set_gas (mk.gas - ct)
     rw [← HGN.out] at hm6
     have HK6 : Hid (KT wr (wc.setCell ⟨M, 26, none⟩ (.int .i64 ((mk.gas : Int) - ct)))) := by
      obtain ⟨cs, e, _⟩ := HMc.out.blk
      exact HKc.out.trans (KT.set e _ _)
     have hB6 := (show KT wc (wc.setCell ⟨M, 26, none⟩ (.int .i64 ((mk.gas : Int) - ct))) by obtain ⟨cs, e, _⟩ := HMc.out.blk; exact KT.set e _ _) _ _ _ _ HBc.out (by decide) (by decide) (by decide) (by decide)
     have hs6 : wr.heap.size + 1 ≤ (wc.setCell ⟨M, 26, none⟩ (.int .i64 ((mk.gas : Int) - ct))).heap.size := by simpa [World.setCell] using hsc2
     clear HMc HKc HBc
     generalize (wc.setCell ⟨M, 26, none⟩ (.int .i64 ((mk.gas : Int) - ct))) = wd at *
     have c27 := hm6.c27
     have f27 := hm6.froz 27
     have hM6 := hm6.size
     have hm7 := hm6.set_steps (mk.steps + 1)
     have hst1 : ((mk.steps + 1 : Nat) : Int) = (mk.steps : Int) + 1 := by omega
     rw [hst1] at hm7
     have hB7 := (show KT wd (wd.setCell ⟨M, 27, none⟩ (.int .i64 ((mk.steps : Int) + 1))) by obtain ⟨cs, e, _⟩ := hm6.blk; exact KT.set e _ _) _ _ _ _ hB6 (by decide) (by decide) (by decide) (by decide)
     have HK7 : Hid (KT wr (wd.setCell ⟨M, 27, none⟩ (.int .i64 ((mk.steps : Int) + 1)))) := by
      obtain ⟨cs, e, _⟩ := hm6.blk
      exact HK6.out.trans (KT.set e _ _)
     have hs7 : wr.heap.size + 1 ≤ (wd.setCell ⟨M, 27, none⟩ (.int .i64 ((mk.steps : Int) + 1))).heap.size := by simpa [World.setCell] using hs6
     have HM7 := hidc hm7
     have HB7 := hidc hB7
     have hws : wrap64 ((mk.steps : Int) + 1) = (mk.steps : Int) + 1 := by have := HRS.out.gas; unfold wrap64; omega
     clear hm6 hm7 hB6 hB7 HK6 hst1
     go_wp2_with fail
     refine (m_step ⟨_, _, _, HM7.out⟩ (by have := HGO.out.small HS.out; show mk.st.length ≤ 100; omega) HGO.out.base).mono ?_
     rintro e we ⟨rfl, hbe⟩
     have HM8 := hidc (HM7.out.below hbe (by omega))
     have HB8 := hidc (keepB hbe HB7.out)
     have HK8 := hidc (HK7.out.trans (KT.below hbe))
     have hs8 : wr.heap.size + 1 ≤ we.heap.size := Nat.le_trans hs7 hbe.size
     clear hbe HM7 HB7 HK7 hs7
     go_wp2_with fail
     refine (mach_idle _ _ ⟨_, _, _, rfl⟩).mono ?_
     rintro e wf ⟨rfl, hbf⟩
     have hm9 := HM8.out.below hbf (by omega)
     have hB9 := keepB hbf HB8.out
     have HK9 := hidc (HK8.out.trans (KT.below hbf))
     have hs9 : wr.heap.size + 1 ≤ wf.heap.size := Nat.le_trans hs8 hbf.size
     clear hbf HM8 HB8 HK8 hs8
     have c4 := hm9.c4
     have f4 := hm9.froz 4
     have hM9 := hm9.size
     have d2 : wf.cell? ⟨wr.heap.size, 2, none⟩ = some (.int .i64 x.nx) := by rw [cell_of_block hB9]; rfl
     have hma := hm9.set_pl x.nx
     have HKs : Hid (KT wf (wf.setCell ⟨M, 4, none⟩ (.int .i64 (x.nx : Nat)))) := by
      obtain ⟨cs, e, _⟩ := hm9.blk
      exact KT.set e _ _
     have hBa := HKs.out _ _ _ _ hB9 (by decide) (by decide) (by decide) (by decide)
     have hsa : wr.heap.size + 1 ≤ (wf.setCell ⟨M, 4, none⟩ (.int .i64 (x.nx : Nat))).heap.size := by simpa [World.setCell] using hs9
     have HKa := hidc (HK9.out.trans HKs.out)
     have HP : Hid (MachX w0 (wf.setCell ⟨M, 4, none⟩ (.int .i64 (x.nx : Nat))) M B F (paidM x mk)) := by
      show MachX w0 (wf.setCell ⟨M, 4, none⟩ (.int .i64 (x.nx : Nat))) M B F (paidM x mk)
      unfold paidM
      rw [HCT.out]
      exact ⟨_, _, _, hma⟩
     have HBa := hidc hBa
     have hDa := HKa.out _ _ _ _ hND (by decide) (by decide) (by decide) (by decide)
     have HDa := hidc hDa
     clear hm9 hB9 HK9 hma hBa hDa HKs
     go_wp2_with fail
     generalize (wf.setCell ⟨M, 4, none⟩ (.int .i64 (x.nx : Nat))) = wg at *
     clear c4 f4 d2 hM9 hs9
     have b0 : wg.cell? ⟨wr.heap.size, 0, none⟩ = some (.int .i64 x.op) := by rw [cell_of_block HBa.out]; rfl
     have b1 : wg.cell? ⟨wr.heap.size, 1, none⟩ = some (.int .i64 mk.pl) := by rw [cell_of_block HBa.out]; rfl
     have b2 : wg.cell? ⟨wr.heap.size, 2, none⟩ = some (.int .i64 x.nx) := by rw [cell_of_block HBa.out]; rfl
     have b3 : wg.cell? ⟨wr.heap.size, 3, none⟩ = some (.int .i64 x.n) := by rw [cell_of_block HBa.out]; rfl
     have b4 : wg.cell? ⟨wr.heap.size, 4, none⟩ = some (.slice ta x.to.length tc) := by rw [cell_of_block HBa.out]; rfl
     have bd : wg.cell? ⟨w1.heap.size, x.op, none⟩ = some (.func (.func (opF x.op)) #[] #[]) := by rw [cell_of_block HDa.out]; exact deeds_get hop
     have hDs : w1.heap.size < wg.heap.size := blt HDa.out
     have hopi : (x.op : Int) < 21 := by omega
     refine wp_region_held_drew (S := fun w' => w'.cell? ⟨wr.heap.size, 0, none⟩ = some (.int .i64 x.op) ∧ w'.cell? ⟨wr.heap.size, 1, none⟩ = some (.int .i64 mk.pl) ∧ w'.cell? ⟨wr.heap.size, 2, none⟩ = some (.int .i64 x.nx) ∧ w'.cell? ⟨wr.heap.size, 3, none⟩ = some (.int .i64 x.n) ∧ w'.cell? ⟨wr.heap.size, 4, none⟩ = some (.slice ta x.to.length tc) ∧ w'.cell? ⟨w1.heap.size, x.op, none⟩ = some (.func (.func (opF x.op)) #[] #[])) (by kernel_rfl) ⟨b0, b1, b2, b3, b4, bd⟩ (fun hHeld => ?_)
     refine wpAnyH_take (i := 0) (v := ?vpk0) rfl (by kernel_rfl) (by kernel_rfl) (by kernel_rfl) (fun _ _ _ h => panic_put (fn := Tryz.f32) (R := RunPost w0 w M B F S m) Tryz.results32 h) (Or.inl ⟨by rfl, ?hypk0⟩) hHeld ?restpk0
     case hypk0 => rintro w ⟨s1, s2, s3, s4, s5, s6⟩; go_simp; try with_reducible rfl
     simp only [Act.put, aA, aB, aC, aD, aE]
     refine wpAnyH_take (i := 1) (v := ?vpk1) rfl (by kernel_rfl) (by kernel_rfl) (by kernel_rfl) (fun _ _ _ h => panic_put (fn := Tryz.f32) (R := RunPost w0 w M B F S m) Tryz.results32 h) (Or.inl ⟨by rfl, ?hypk1⟩) hHeld ?restpk1
     case hypk1 => rintro w ⟨s1, s2, s3, s4, s5, s6⟩; go_simp; try with_reducible rfl
     simp only [Act.put, aA, aB, aC, aD, aE, aF]
     refine wpAnyH_take (i := 2) (v := ?vpk2) rfl (by kernel_rfl) (by kernel_rfl) (by kernel_rfl) (fun _ _ _ h => panic_put (fn := Tryz.f32) (R := RunPost w0 w M B F S m) Tryz.results32 h) (Or.inl ⟨by rfl, ?hypk2⟩) hHeld ?restpk2
     case hypk2 => rintro w ⟨s1, s2, s3, s4, s5, s6⟩; go_simp; try with_reducible rfl
     simp only [Act.put, aA, aB, aC, aD, aE, aF]
     refine wpAnyH_take (i := 3) (v := ?vpk3) rfl (by kernel_rfl) (by kernel_rfl) (by kernel_rfl) (fun _ _ _ h => panic_put (fn := Tryz.f32) (R := RunPost w0 w M B F S m) Tryz.results32 h) (Or.inl ⟨by rfl, ?hypk3⟩) hHeld ?restpk3
     case hypk3 => rintro w ⟨s1, s2, s3, s4, s5, s6⟩; go_simp; try with_reducible rfl
     simp only [Act.put, aA, aB, aC, aD, aE, aF]
     refine wpAnyH_take (i := 4) (v := ?vpk4) rfl (by kernel_rfl) (by kernel_rfl) (by kernel_rfl) (fun _ _ _ h => panic_put (fn := Tryz.f32) (R := RunPost w0 w M B F S m) Tryz.results32 h) (Or.inl ⟨by rfl, ?hypk4⟩) hHeld ?restpk4
     case hypk4 => rintro w ⟨s1, s2, s3, s4, s5, s6⟩; go_simp; try with_reducible rfl
     simp only [Act.put, aA, aB, aC, aD, aE, aF]
     refine wpAnyH_take (i := 5) (v := ?vpk5) rfl (by kernel_rfl) (by kernel_rfl) (by kernel_rfl) (fun _ _ _ h => panic_put (fn := Tryz.f32) (R := RunPost w0 w M B F S m) Tryz.results32 h) (Or.inl ⟨by rfl, ?hypk5⟩) hHeld ?restpk5
     case hypk5 => rintro w ⟨s1, s2, s3, s4, s5, s6⟩; go_simp; try with_reducible rfl
     simp only [Act.put, aA, aB, aC, aD, aE, aF]
     refine rd 6 rfl (fun K hK => ?_)
     simp only [aD, aE, aF]
     go_simp
     rw [deeds_enter hop]
     go_wp2_with fail
     have hdo := do_any HST.out HS.out HGO.out (by have := HRS.out.outs; have := HRS.out.gas; omega) (w := wg.drew) (by rw [HXG.out]; exact HP.out.below ((Below.refl _ _).drew) (by omega)) (show B ≤ wg.heap.size by omega) ta tc (by rw [HXG.out]; exact HTO.out)
     rw [HXG.out, HPL.out] at hdo
     refine hdo.mono ?_
     clear hdo
     rintro e wh ⟨rfl, hm, hBh, hk, hsh⟩
     have HMh := hidc hm
     have HKh := hidc hk
     clear hm hk
     go_wp2_with fail
     have HKg := hidc ((KT.below ((Below.refl wg.heap.size wg).drew)).trans HKh.out)
     have hBXh := HKg.out _ _ _ _ HBa.out (by decide) (by decide) (by decide) (by decide)
     have hDh := HKg.out _ _ _ _ HDa.out (by decide) (by decide) (by decide) (by decide)
     refine hK.out _ _ ⟨by rw [cell_of_block hBXh]; rfl, by rw [cell_of_block hBXh]; rfl, by rw [cell_of_block hBXh]; rfl, by rw [cell_of_block hBXh]; rfl, by rw [cell_of_block hBXh]; rfl, by rw [cell_of_block hDh]; exact deeds_get hop⟩ (fun hHeld => ?_)
     clear hK
     refine wpAnyH_done (by kernel_rfl) ?_ _
     clear hHeld b0 b1 b2 b3 b4 bd
     have HDh := hidc hDh
     have HRN : Hid (RunS w0 wh M B w1.heap.size F S m (stepM S F.d mk)) := by
      have hst := HST2.out
      refine ⟨by rw [hst]; exact HMh.out, fun hn => good_step HS.out HGO.out hn, ?_, ?_, ?_, HDh.out, hBh⟩
      ·rw [← fate_step hnone]; exact HRS.out.fate
      ·rw [hst, (doI_gas S F.d x (paidM x mk)).2]
       have h1 := doI_out S F.d x (paidM x mk)
       have h2 := HRS.out.outs
       have e1 : (paidM x mk).out = mk.out := rfl
       have e2 : (paidM x mk).steps = mk.steps + 1 := rfl
       rw [e1] at h1
       rw [e2]
       omega
      ·rw [hst, (doI_gas S F.d x (paidM x mk)).1, (doI_gas S F.d x (paidM x mk)).2]
       have h2 := HRS.out.gas
       have e2 : (paidM x mk).steps = mk.steps + 1 := rfl
       have e3 : (paidM x mk).gas = mk.gas - costT x.op := rfl
       rw [e2, e3, HCT.out]
       omega
     have HGC : Hid (gasC wh M < gasC wr M) := by
      show gasC wh M < gasC wr M
      obtain ⟨_, _, _, hq⟩ := HRN.out.mach
      obtain ⟨_, _, _, hq2⟩ := HRS.out.mach
      have g1 : gasC wh M = (stepM S F.d mk).gas := by unfold gasC; rw [hq.c26]; simp
      have g2 : gasC wr M = mk.gas := by unfold gasC; rw [hq2.c26]; simp
      rw [g1, g2, HST2.out, (doI_gas S F.d x (paidM x mk)).1]
      have e3 : (paidM x mk).gas = mk.gas - costT x.op := rfl
      rw [e3, HCT.out]
      omega
     go_wp2_with fail
     refine ⟨⟨stepM S F.d mk, HRN.out, HKW.out.trans (HKa.out.trans HKg.out), ?_⟩, HGC.out⟩
     show w.heap.size ≤ wh.heap.size
     have : wg.heap.size ≤ wh.heap.size := hsh
     omega
    case gsix =>
     simp only [aD, aE, aF]
     go_simp
     go_at_call 55
     refine (insn_cost ⟨x.op, mk.pl, x.nx, x.n, x.to⟩ (.slice ta x.to.length tc) _ (HRB.out.below (by omega) ((Below.refl wb.heap.size wb).drew)) hop).mono ?_
     rw [HCT.out]
     rintro e wc ⟨rfl, hbc⟩
     go_wp2_with fail
     have hbc' : Below wb.heap.size wb wc := ((Below.refl wb.heap.size wb).drew).trans hbc
     have hcc := fun g i (h : g < wb.heap.size) => (bcell hbc').1 g i h
     refine hK.out _ _ ⟨(hcc _ _ (by omega)).trans b0, (hcc _ _ (by omega)).trans b1, (hcc _ _ (by omega)).trans b2, (hcc _ _ (by omega)).trans b3, (hcc _ _ (by omega)).trans b4⟩ (fun hHeld => ?_)
     clear hK
     have hmc := HMb.out.below hbc' (by omega)
     have c26c := hmc.c26
     have f26c := hmc.froz 26
     have HMc := hidc hmc
     have HKc := hidc (HKb.out.trans (KT.below hbc'))
     have HBc := hidc (keepB hbc' HBb.out)
     have hsc2 : wr.heap.size + 1 ≤ wc.heap.size := by have := hbc'.size; omega
     have hMc := hmc.size
     clear hbc hbc' hcc hmc
     refine rd 4 rfl (fun K hK => ?_)
     simp only [aD, aE, aF]
     go_simp
     refine hK.out _ _ hHeld (fun hHeld => ?_)
     clear hK
     refine wpAnyH_take (i := 7) (v := .int .i64 ((mk.gas : Int) - ct)) rfl (by kernel_rfl) (by kernel_rfl) (by kernel_rfl) (fun _ _ _ h => panic_put (fn := Tryz.f32) (R := RunPost w0 w M B F S m) Tryz.results32 h) (Or.inl ⟨by rfl, ?hyqg7⟩) hHeld ?restqg7
     case hyqg7 => rintro w ⟨s1, s2, s3, s4, s5⟩; go_simp; try with_reducible rfl
     simp only [Act.put, aA, aB, aC, aD, aE, aF]
     refine wpAnyH_take (i := 8) (v := ?vqg8) rfl (by kernel_rfl) (by kernel_rfl) (by kernel_rfl) (fun _ _ _ h => panic_put (fn := Tryz.f32) (R := RunPost w0 w M B F S m) Tryz.results32 h) (Or.inl ⟨by rfl, ?hyqg8⟩) hHeld ?restqg8
     case hyqg8 => rintro w ⟨s1, s2, s3, s4, s5⟩; go_simp; try with_reducible rfl
     simp only [Act.put, aA, aB, aC, aD, aE, aF]
     refine wpAnyH_take (i := 9) (v := ?vqg9) rfl (by kernel_rfl) (by kernel_rfl) (by kernel_rfl) (fun _ _ _ h => panic_put (fn := Tryz.f32) (R := RunPost w0 w M B F S m) Tryz.results32 h) (Or.inl ⟨by rfl, ?hyqg9⟩) hHeld ?restqg9
     case hyqg9 => rintro w ⟨s1, s2, s3, s4, s5⟩; go_simp; try with_reducible rfl
     simp only [Act.put, aA, aB, aC, aD, aE, aF]
     refine wpAnyH_take (i := 10) (v := ?vqg10) rfl (by kernel_rfl) (by kernel_rfl) (by kernel_rfl) (fun _ _ _ h => panic_put (fn := Tryz.f32) (R := RunPost w0 w M B F S m) Tryz.results32 h) (Or.inl ⟨by rfl, ?hyqg10⟩) hHeld ?restqg10
     case hyqg10 => rintro w ⟨s1, s2, s3, s4, s5⟩; go_simp; try with_reducible rfl
     simp only [Act.put, aA, aB, aC, aD, aE, aF]
     refine rd 11 rfl (fun K hK => ?_)
     simp only [aD, aE, aF]
     go_simp
     refine hK.out _ _ ⟨(set_other _ (by omega)).trans hHeld.1, (set_other _ (by omega)).trans hHeld.2.1, (set_other _ (by omega)).trans hHeld.2.2.1, (set_other _ (by omega)).trans hHeld.2.2.2.1, (set_other _ (by omega)).trans hHeld.2.2.2.2⟩ (fun hHeld => ?_)
     clear hK
     refine wpAnyH_done (by kernel_rfl) ?_ _
     clear hHeld c26 b0 b1 b2 b3 b4 c26d c26c f26c
     have hm6 := HMc.out.set_gas (mk.gas - ct)
     rw [← HGN.out] at hm6
     have HK6 : Hid (KT wr (wc.setCell ⟨M, 26, none⟩ (.int .i64 ((mk.gas : Int) - ct)))) := by
      obtain ⟨cs, e, _⟩ := HMc.out.blk
      exact HKc.out.trans (KT.set e _ _)
     have hB6 := (show KT wc (wc.setCell ⟨M, 26, none⟩ (.int .i64 ((mk.gas : Int) - ct))) by obtain ⟨cs, e, _⟩ := HMc.out.blk; exact KT.set e _ _) _ _ _ _ HBc.out (by decide) (by decide) (by decide) (by decide)
     have hs6 : wr.heap.size + 1 ≤ (wc.setCell ⟨M, 26, none⟩ (.int .i64 ((mk.gas : Int) - ct))).heap.size := by simpa [World.setCell] using hsc2
     clear HMc HKc HBc
     generalize (wc.setCell ⟨M, 26, none⟩ (.int .i64 ((mk.gas : Int) - ct))) = wd at *
     have c27 := hm6.c27
     have f27 := hm6.froz 27
     have hM6 := hm6.size
     have hm7 := hm6.set_steps (mk.steps + 1)
     have hst1 : ((mk.steps + 1 : Nat) : Int) = (mk.steps : Int) + 1 := by omega
     rw [hst1] at hm7
     have hB7 := (show KT wd (wd.setCell ⟨M, 27, none⟩ (.int .i64 ((mk.steps : Int) + 1))) by obtain ⟨cs, e, _⟩ := hm6.blk; exact KT.set e _ _) _ _ _ _ hB6 (by decide) (by decide) (by decide) (by decide)
     have HK7 : Hid (KT wr (wd.setCell ⟨M, 27, none⟩ (.int .i64 ((mk.steps : Int) + 1)))) := by
      obtain ⟨cs, e, _⟩ := hm6.blk
      exact HK6.out.trans (KT.set e _ _)
     have hs7 : wr.heap.size + 1 ≤ (wd.setCell ⟨M, 27, none⟩ (.int .i64 ((mk.steps : Int) + 1))).heap.size := by simpa [World.setCell] using hs6
     have HM7 := hidc hm7
     have HB7 := hidc hB7
     have hws : wrap64 ((mk.steps : Int) + 1) = (mk.steps : Int) + 1 := by have := HRS.out.gas; unfold wrap64; omega
     clear hm6 hm7 hB6 hB7 HK6 hst1
     go_wp2_with fail
     refine (m_step ⟨_, _, _, HM7.out⟩ (by have := HGO.out.small HS.out; show mk.st.length ≤ 100; omega) HGO.out.base).mono ?_
     rintro e we ⟨rfl, hbe⟩
     have HM8 := hidc (HM7.out.below hbe (by omega))
     have HB8 := hidc (keepB hbe HB7.out)
     have HK8 := hidc (HK7.out.trans (KT.below hbe))
     have hs8 : wr.heap.size + 1 ≤ we.heap.size := Nat.le_trans hs7 hbe.size
     clear hbe HM7 HB7 HK7 hs7
     go_wp2_with fail
     refine (mach_idle _ _ ⟨_, _, _, rfl⟩).mono ?_
     rintro e wf ⟨rfl, hbf⟩
     have hm9 := HM8.out.below hbf (by omega)
     have hB9 := keepB hbf HB8.out
     have HK9 := hidc (HK8.out.trans (KT.below hbf))
     have hs9 : wr.heap.size + 1 ≤ wf.heap.size := Nat.le_trans hs8 hbf.size
     clear hbf HM8 HB8 HK8 hs8
     have c4 := hm9.c4
     have f4 := hm9.froz 4
     have hM9 := hm9.size
     have d2 : wf.cell? ⟨wr.heap.size, 2, none⟩ = some (.int .i64 x.nx) := by rw [cell_of_block hB9]; rfl
     have hma := hm9.set_pl x.nx
     have HKs : Hid (KT wf (wf.setCell ⟨M, 4, none⟩ (.int .i64 (x.nx : Nat)))) := by
      obtain ⟨cs, e, _⟩ := hm9.blk
      exact KT.set e _ _
     have hBa := HKs.out _ _ _ _ hB9 (by decide) (by decide) (by decide) (by decide)
     have hsa : wr.heap.size + 1 ≤ (wf.setCell ⟨M, 4, none⟩ (.int .i64 (x.nx : Nat))).heap.size := by simpa [World.setCell] using hs9
     have HKa := hidc (HK9.out.trans HKs.out)
     have HP : Hid (MachX w0 (wf.setCell ⟨M, 4, none⟩ (.int .i64 (x.nx : Nat))) M B F (paidM x mk)) := by
      show MachX w0 (wf.setCell ⟨M, 4, none⟩ (.int .i64 (x.nx : Nat))) M B F (paidM x mk)
      unfold paidM
      rw [HCT.out]
      exact ⟨_, _, _, hma⟩
     have HBa := hidc hBa
     have hDa := HKa.out _ _ _ _ hND (by decide) (by decide) (by decide) (by decide)
     have HDa := hidc hDa
     clear hm9 hB9 HK9 hma hBa hDa HKs
     go_wp2_with fail
     generalize (wf.setCell ⟨M, 4, none⟩ (.int .i64 (x.nx : Nat))) = wg at *
     clear c4 f4 d2 hM9 hs9
     have b0 : wg.cell? ⟨wr.heap.size, 0, none⟩ = some (.int .i64 x.op) := by rw [cell_of_block HBa.out]; rfl
     have b1 : wg.cell? ⟨wr.heap.size, 1, none⟩ = some (.int .i64 mk.pl) := by rw [cell_of_block HBa.out]; rfl
     have b2 : wg.cell? ⟨wr.heap.size, 2, none⟩ = some (.int .i64 x.nx) := by rw [cell_of_block HBa.out]; rfl
     have b3 : wg.cell? ⟨wr.heap.size, 3, none⟩ = some (.int .i64 x.n) := by rw [cell_of_block HBa.out]; rfl
     have b4 : wg.cell? ⟨wr.heap.size, 4, none⟩ = some (.slice ta x.to.length tc) := by rw [cell_of_block HBa.out]; rfl
     have bd : wg.cell? ⟨w1.heap.size, x.op, none⟩ = some (.func (.func (opF x.op)) #[] #[]) := by rw [cell_of_block HDa.out]; exact deeds_get hop
     have hDs : w1.heap.size < wg.heap.size := blt HDa.out
     have hopi : (x.op : Int) < 21 := by omega
     refine wp_region_held_drew (S := fun w' => w'.cell? ⟨wr.heap.size, 0, none⟩ = some (.int .i64 x.op) ∧ w'.cell? ⟨wr.heap.size, 1, none⟩ = some (.int .i64 mk.pl) ∧ w'.cell? ⟨wr.heap.size, 2, none⟩ = some (.int .i64 x.nx) ∧ w'.cell? ⟨wr.heap.size, 3, none⟩ = some (.int .i64 x.n) ∧ w'.cell? ⟨wr.heap.size, 4, none⟩ = some (.slice ta x.to.length tc) ∧ w'.cell? ⟨w1.heap.size, x.op, none⟩ = some (.func (.func (opF x.op)) #[] #[])) (by kernel_rfl) ⟨b0, b1, b2, b3, b4, bd⟩ (fun hHeld => ?_)
     refine wpAnyH_take (i := 0) (v := ?vqk0) rfl (by kernel_rfl) (by kernel_rfl) (by kernel_rfl) (fun _ _ _ h => panic_put (fn := Tryz.f32) (R := RunPost w0 w M B F S m) Tryz.results32 h) (Or.inl ⟨by rfl, ?hyqk0⟩) hHeld ?restqk0
     case hyqk0 => rintro w ⟨s1, s2, s3, s4, s5, s6⟩; go_simp; try with_reducible rfl
     simp only [Act.put, aA, aB, aC, aD, aE]
     refine wpAnyH_take (i := 1) (v := ?vqk1) rfl (by kernel_rfl) (by kernel_rfl) (by kernel_rfl) (fun _ _ _ h => panic_put (fn := Tryz.f32) (R := RunPost w0 w M B F S m) Tryz.results32 h) (Or.inl ⟨by rfl, ?hyqk1⟩) hHeld ?restqk1
     case hyqk1 => rintro w ⟨s1, s2, s3, s4, s5, s6⟩; go_simp; try with_reducible rfl
     simp only [Act.put, aA, aB, aC, aD, aE, aF]
     refine wpAnyH_take (i := 2) (v := ?vqk2) rfl (by kernel_rfl) (by kernel_rfl) (by kernel_rfl) (fun _ _ _ h => panic_put (fn := Tryz.f32) (R := RunPost w0 w M B F S m) Tryz.results32 h) (Or.inl ⟨by rfl, ?hyqk2⟩) hHeld ?restqk2
     case hyqk2 => rintro w ⟨s1, s2, s3, s4, s5, s6⟩; go_simp; try with_reducible rfl
     simp only [Act.put, aA, aB, aC, aD, aE, aF]
     refine wpAnyH_take (i := 3) (v := ?vqk3) rfl (by kernel_rfl) (by kernel_rfl) (by kernel_rfl) (fun _ _ _ h => panic_put (fn := Tryz.f32) (R := RunPost w0 w M B F S m) Tryz.results32 h) (Or.inl ⟨by rfl, ?hyqk3⟩) hHeld ?restqk3
     case hyqk3 => rintro w ⟨s1, s2, s3, s4, s5, s6⟩; go_simp; try with_reducible rfl
     simp only [Act.put, aA, aB, aC, aD, aE, aF]
     refine wpAnyH_take (i := 4) (v := ?vqk4) rfl (by kernel_rfl) (by kernel_rfl) (by kernel_rfl) (fun _ _ _ h => panic_put (fn := Tryz.f32) (R := RunPost w0 w M B F S m) Tryz.results32 h) (Or.inl ⟨by rfl, ?hyqk4⟩) hHeld ?restqk4
     case hyqk4 => rintro w ⟨s1, s2, s3, s4, s5, s6⟩; go_simp; try with_reducible rfl
     simp only [Act.put, aA, aB, aC, aD, aE, aF]
     refine wpAnyH_take (i := 5) (v := ?vqk5) rfl (by kernel_rfl) (by kernel_rfl) (by kernel_rfl) (fun _ _ _ h => panic_put (fn := Tryz.f32) (R := RunPost w0 w M B F S m) Tryz.results32 h) (Or.inl ⟨by rfl, ?hyqk5⟩) hHeld ?restqk5
     case hyqk5 => rintro w ⟨s1, s2, s3, s4, s5, s6⟩; go_simp; try with_reducible rfl
     simp only [Act.put, aA, aB, aC, aD, aE, aF]
     refine rd 6 rfl (fun K hK => ?_)
     simp only [aD, aE, aF]
     go_simp
     rw [deeds_enter hop]
     go_wp2_with fail
     have hdo := do_any HST.out HS.out HGO.out (by have := HRS.out.outs; have := HRS.out.gas; omega) (w := wg.drew) (by rw [HXG.out]; exact HP.out.below ((Below.refl _ _).drew) (by omega)) (show B ≤ wg.heap.size by omega) ta tc (by rw [HXG.out]; exact HTO.out)
     rw [HXG.out, HPL.out] at hdo
     refine hdo.mono ?_
     clear hdo
     rintro e wh ⟨rfl, hm, hBh, hk, hsh⟩
     have HMh := hidc hm
     have HKh := hidc hk
     clear hm hk
     go_wp2_with fail
     have HKg := hidc ((KT.below ((Below.refl wg.heap.size wg).drew)).trans HKh.out)
     have hBXh := HKg.out _ _ _ _ HBa.out (by decide) (by decide) (by decide) (by decide)
     have hDh := HKg.out _ _ _ _ HDa.out (by decide) (by decide) (by decide) (by decide)
     refine hK.out _ _ ⟨by rw [cell_of_block hBXh]; rfl, by rw [cell_of_block hBXh]; rfl, by rw [cell_of_block hBXh]; rfl, by rw [cell_of_block hBXh]; rfl, by rw [cell_of_block hBXh]; rfl, by rw [cell_of_block hDh]; exact deeds_get hop⟩ (fun hHeld => ?_)
     clear hK
     refine wpAnyH_done (by kernel_rfl) ?_ _
     clear hHeld b0 b1 b2 b3 b4 bd
     have HDh := hidc hDh
     have HRN : Hid (RunS w0 wh M B w1.heap.size F S m (stepM S F.d mk)) := by
      have hst := HST2.out
      refine ⟨by rw [hst]; exact HMh.out, fun hn => good_step HS.out HGO.out hn, ?_, ?_, ?_, HDh.out, hBh⟩
      ·rw [← fate_step hnone]; exact HRS.out.fate
      ·rw [hst, (doI_gas S F.d x (paidM x mk)).2]
       have h1 := doI_out S F.d x (paidM x mk)
       have h2 := HRS.out.outs
       have e1 : (paidM x mk).out = mk.out := rfl
       have e2 : (paidM x mk).steps = mk.steps + 1 := rfl
       rw [e1] at h1
       rw [e2]
       omega
      ·rw [hst, (doI_gas S F.d x (paidM x mk)).1, (doI_gas S F.d x (paidM x mk)).2]
       have h2 := HRS.out.gas
       have e2 : (paidM x mk).steps = mk.steps + 1 := rfl
       have e3 : (paidM x mk).gas = mk.gas - costT x.op := rfl
       rw [e2, e3, HCT.out]
       omega
     have HGC : Hid (gasC wh M < gasC wr M) := by
      show gasC wh M < gasC wr M
      obtain ⟨_, _, _, hq⟩ := HRN.out.mach
      obtain ⟨_, _, _, hq2⟩ := HRS.out.mach
      have g1 : gasC wh M = (stepM S F.d mk).gas := by unfold gasC; rw [hq.c26]; simp
      have g2 : gasC wr M = mk.gas := by unfold gasC; rw [hq2.c26]; simp
      rw [g1, g2, HST2.out, (doI_gas S F.d x (paidM x mk)).1]
      have e3 : (paidM x mk).gas = mk.gas - costT x.op := rfl
      rw [e3, HCT.out]
      omega
     go_wp2_with fail
     refine ⟨⟨stepM S F.d mk, HRN.out, HKW.out.trans (HKa.out.trans HKg.out), ?_⟩, HGC.out⟩
     show w.heap.size ≤ wh.heap.size
     have : wg.heap.size ≤ wh.heap.size := hsh
     omega
end Go.Proofs.YtdhmandnamajpaaGreatDoor
