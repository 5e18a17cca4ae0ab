import Derived.Test.YtdhmandnamajpaaGreatDoorY00
import Derived.Test.YtdhmandnamajpaaGreatDoorY29
namespace Go.Proofs.YtdhmandnamajpaaGreatDoor
open Go.RowKit Go.Joins
theorem number1 (b : ByteArray) (r p F : Nat) (fb : Int → Bool) (e : Int) (w : World) (h : RdAt w r b p e) (hp : e = 0 → p ≤ b.size)
  (hF : ∀ (n : Int) (w : World), Calls Tryz.prog F #[.int .i64 n] w fun e w' => e = .returned (.bool (fb n)) ∧ w' = w) (hcf : ∀ (x : Value) (w : World), (callFunc F #[x]).run Tryz.prog w = .ok (.enter F #[x]) w) :
  Calls Tryz.prog 42 #[.pointer (some ⟨r, 0, none⟩), .int .i64 1, .func (.func F) #[] #[]] w fun x w' => ∃ (n p' : Nat) (e' : Int), x = .returned (.int .i64 n) ∧ Went w w' r b e (er b p 1 (fb (num1 b p))) e' p' ∧ (e' ≠ 0 → n = 0) ∧ (e' = 0 → n = num1 b p ∧ p' = p + 1) :=
 number_any b r p 1 F fb e w h (.inl rfl) hp hF hcf
theorem number2 (b : ByteArray) (r p F : Nat) (fb : Int → Bool) (e : Int) (w : World) (h : RdAt w r b p e) (hp : e = 0 → p ≤ b.size)
  (hF : ∀ (n : Int) (w : World), Calls Tryz.prog F #[.int .i64 n] w fun e w' => e = .returned (.bool (fb n)) ∧ w' = w) (hcf : ∀ (x : Value) (w : World), (callFunc F #[x]).run Tryz.prog w = .ok (.enter F #[x]) w) :
  Calls Tryz.prog 42 #[.pointer (some ⟨r, 0, none⟩), .int .i64 2, .func (.func F) #[] #[]] w fun x w' => ∃ (n p' : Nat) (e' : Int), x = .returned (.int .i64 n) ∧ Went w w' r b e (er b p 2 (fb (num2 b p))) e' p' ∧ (e' ≠ 0 → n = 0) ∧ (e' = 0 → n = num2 b p ∧ p' = p + 2) :=
 number_any b r p 2 F fb e w h (.inr rfl) hp hF hcf
theorem rd_alloc {w : World} {r p : Nat} {b : ByteArray} {e : Int} (h : RdAt w r b p e) (o : Obj) : RdAt (w.alloc o) r b p e := rd_below h ((Below.refl _ _).alloc (Nat.le_refl _) o)
theorem rd_setFar {w : World} {r p g i : Nat} {b : ByteArray} {e : Int} (h : RdAt w r b p e) (hne : r ≠ g) (v : Value) : RdAt (w.setCell ⟨g, i, none⟩ v) r b p e := by
 unfold RdAt
 rw [Below.heap_setCell _ _ _ _ hne]
 exact h
def Blk (w : World) (g : Nat) (x0 x1 x2 x3 : Value) : Prop := w.heap[g]? = some (.cells #[x0, x1, x2, x3] 65 (0, 0))
theorem Blk.facts {w : World} {g : Nat} {x0 x1 x2 x3 : Value} (h : Blk w g x0 x1 x2 x3) :
  w.cell? ⟨g, 0, none⟩ = some x0 ∧ w.cell? ⟨g, 1, none⟩ = some x1 ∧ w.cell? ⟨g, 2, none⟩ = some x2 ∧ w.cell? ⟨g, 3, none⟩ = some x3 ∧
  w.frozen? ⟨g, 0, none⟩ = false ∧ w.frozen? ⟨g, 1, none⟩ = false ∧ w.frozen? ⟨g, 2, none⟩ = false ∧ w.frozen? ⟨g, 3, none⟩ = false :=
 ⟨by rw [cell_of_block h]; rfl, by rw [cell_of_block h]; rfl, by rw [cell_of_block h]; rfl, by rw [cell_of_block h]; rfl, unfrozen_of_block h 0, unfrozen_of_block h 1, unfrozen_of_block h 2, unfrozen_of_block h 3⟩
theorem Blk.grown {w w' : World} {g r : Nat} {x0 x1 x2 x3 : Value} (h : Blk w g x0 x1 x2 x3) (hg : w.grownBy w' (some r)) (hne : g ≠ r) : Blk w' g x0 x1 x2 x3 := by
 unfold Blk
 have hlt : g < w.heap.size := by
  rcases Nat.lt_or_ge g w.heap.size with hlt | hge
  ·exact hlt
  ·unfold Blk at h; rw [Array.getElem?_eq_none hge] at h; cases h
 rw [hg.block g hlt (fun e => hne (Option.some.inj e))]
 exact h
theorem Blk.set {w : World} {g : Nat} {x0 x1 x2 x3 : Value} (h : Blk w g x0 x1 x2 x3) (i : Nat) (v : Value) : (w.setCell ⟨g, i, none⟩ v).heap[g]? = some (.cells (#[x0, x1, x2, x3].setIfInBounds i v) 65 (0, 0)) := block_setCell h v
theorem Blk.setFar {w : World} {g g' i : Nat} {x0 x1 x2 x3 : Value} (h : Blk w g x0 x1 x2 x3) (hne : g ≠ g') (v : Value) : Blk (w.setCell ⟨g', i, none⟩ v) g x0 x1 x2 x3 := by
 unfold Blk
 rw [Below.heap_setCell _ _ _ _ hne]
 exact h
theorem blk_alloc (w : World) (x0 x1 x2 x3 : Value) : Blk (w.alloc (.cells #[x0, x1, x2, x3] 65)) w.heap.size x0 x1 x2 x3 := heap_alloc_new _ _
theorem Blk.alloc {w : World} {g : Nat} {x0 x1 x2 x3 : Value} (h : Blk w g x0 x1 x2 x3) (o : Obj) : Blk (w.alloc o) g x0 x1 x2 x3 := by
 unfold Blk
 have hlt : g < w.heap.size := by
  rcases Nat.lt_or_ge g w.heap.size with hlt | hge
  ·exact hlt
  ·unfold Blk at h; rw [Array.getElem?_eq_none hge] at h; cases h
 rw [Below.heap_alloc _ _ _ hlt]
 exact h
structure Kept (B r : Nat) (w w' : World) : Prop where
 os : w'.os = w.os
 tape : w'.tape = w.tape
 output : w'.output = w.output
 size : w.heap.size ≤ w'.heap.size
 block : ∀ k, k < B → k ≠ r → w'.heap[k]? = w.heap[k]?
theorem Kept.refl (B r : Nat) (w : World) : Kept B r w w := ⟨rfl, rfl, rfl, Nat.le_refl _, fun _ _ _ => rfl⟩
theorem Kept.trans {B r : Nat} {a b c : World} (h : Kept B r a b) (k : Kept B r b c) : Kept B r a c :=
 ⟨k.os.trans h.os, k.tape.trans h.tape, k.output.trans h.output, Nat.le_trans h.size k.size, fun i hi hne => (k.block i hi hne).trans (h.block i hi hne)⟩
theorem Kept.alloc {B r : Nat} {a w : World} (h : Kept B r a w) (hB : B ≤ w.heap.size) (o : Obj) : Kept B r a (w.alloc o) :=
 h.trans ⟨rfl, rfl, rfl, by simp, fun k hk _ => Below.heap_alloc _ _ _ (by omega)⟩
theorem Kept.set {B r : Nat} {a w : World} (h : Kept B r a w) {g : Nat} (hp : B ≤ g) (i : Nat) (u : Value) : Kept B r a (w.setCell ⟨g, i, none⟩ u) :=
 h.trans ⟨rfl, rfl, rfl, by simp [World.setCell], fun k hk _ => Below.heap_setCell _ _ _ _ (by show k ≠ g; omega)⟩
theorem Kept.grown {B r : Nat} {a w w' : World} (h : Kept B r a w) (hB : B ≤ w.heap.size) (hg : w.grownBy w' (some r)) : Kept B r a w' :=
 h.trans ⟨hg.os, hg.tape, hg.output, hg.size, fun k hk hne => hg.block k (by omega) (fun e => hne (Option.some.inj e))⟩
theorem Kept.drew {B r : Nat} {a w : World} (h : Kept B r a w) : Kept B r a w.drew := h.trans ⟨rfl, rfl, rfl, Nat.le_refl _, fun _ _ _ => rfl⟩
theorem Kept.done {r : Nat} {w w' : World} (h : Kept w.heap.size r w w') : w.grownBy w' (some r) :=
 ⟨h.os, h.tape, h.output, h.size, fun k hk hne => h.block k hk (fun e => hne (by rw [e]))⟩
theorem rd_drew1 {w : World} {r p : Nat} {b : ByteArray} {e : Int} (h : RdAt w r b p e) : RdAt w.drew r b p e := h
theorem Blk.drew {w : World} {g : Nat} {x0 x1 x2 x3 : Value} (h : Blk w g x0 x1 x2 x3) : Blk w.drew g x0 x1 x2 x3 := h
theorem head_chain (b : ByteArray) (p : Nat) (e e1 e2 e3 e4 : Int) (p1 p2 p3 p4 : Nat)
  (h1 : (e ≠ 0 → e1 = e) ∧ (e = 0 → e1 = er b p 1 (inB 0 9 (num1 b p : Int))) ∧ (e1 = 0 → p1 ≤ b.size)) (h2 : (e1 ≠ 0 → e2 = e1) ∧ (e1 = 0 → e2 = er b p1 1 (outB (num1 b p1 : Int))) ∧ (e2 = 0 → p2 ≤ b.size))
  (h3 : (e2 ≠ 0 → e3 = e2) ∧ (e2 = 0 → e3 = er b p2 1 (inB 0 40 (num1 b p2 : Int))) ∧ (e3 = 0 → p3 ≤ b.size)) (h4 : (e3 ≠ 0 → e4 = e3) ∧ (e3 = 0 → e4 = er b p3 2 (inB 1 120 (num2 b p3 : Int))) ∧ (e4 = 0 → p4 ≤ b.size))
  (q1 : e1 = 0 → p1 = p + 1) (q2 : e2 = 0 → p2 = p1 + 1) (q3 : e3 = 0 → p3 = p2 + 1) :
  (e ≠ 0 → e4 = e) ∧ (e = 0 → e4 = headE b p) ∧ (e4 = 0 → e1 = 0 ∧ e2 = 0 ∧ e3 = 0) := by
 obtain ⟨a1, b1, _⟩ := h1
 obtain ⟨a2, b2, _⟩ := h2
 obtain ⟨a3, b3, _⟩ := h3
 obtain ⟨a4, b4, _⟩ := h4
 refine ⟨fun he => ?_, fun he => ?_, fun h => ?_⟩
 ·have x1 := a1 he
  have x2 := a2 (by rw [x1]; exact he)
  have x3 := a3 (by rw [x2, x1]; exact he)
  rw [a4 (by rw [x3, x2, x1]; exact he), x3, x2, x1]
 ·have x1 := b1 he
  by_cases y1 : e1 = 0
  ·have r1 := q1 y1
   subst r1
   have x2 := b2 y1
   by_cases y2 : e2 = 0
   ·have r2 := q2 y2
    subst r2
    have x3 := b3 y2
    by_cases y3 : e3 = 0
    ·have r3 := q3 y3
     subst r3
     have x4 := b4 y3
     unfold headE
     rw [← x1, if_neg (by simp [y1]), ← x2, if_neg (by simp [y2]), show p + 2 = p + 1 + 1 from rfl, ← x3, if_neg (by simp [y3]), show p + 3 = p + 1 + 1 + 1 from rfl, ← x4]
    ·rw [a4 y3]
     unfold headE
     rw [← x1, if_neg (by simp [y1]), ← x2, if_neg (by simp [y2]), show p + 2 = p + 1 + 1 from rfl, ← x3, if_pos y3]
   ·have z3 := a3 y2
    rw [a4 (by rw [z3]; exact y2), z3]
    unfold headE
    rw [← x1, if_neg (by simp [y1]), ← x2, if_pos y2]
  ·have z2 := a2 y1
   have z3 := a3 (by rw [z2]; exact y1)
   rw [a4 (by rw [z3, z2]; exact y1), z3, z2]
   unfold headE
   rw [← x1, if_pos y1]
 ·have y3 : e3 = 0 := Decidable.byContradiction fun n => n ((a4 n).symm.trans h)
  have y2 : e2 = 0 := Decidable.byContradiction fun n => n ((a3 n).symm.trans y3)
  have y1 : e1 = 0 := Decidable.byContradiction fun n => n ((a2 n).symm.trans y2)
  exact ⟨y1, y2, y3⟩
set_option maxHeartbeats 1000000 in
theorem head_any (b : ByteArray) (r p : Nat) (e : Int) (w : World) (h : RdAt w r b p e) (hp : e = 0 → p ≤ b.size) :
  Calls Tryz.prog 44 #[.pointer (some ⟨r, 0, none⟩)] w fun x w' => ∃ (n0 n1 n2 n p' : Nat) (e' : Int), x = .returned (.tuple #[.agg #[.int .i64 n0, .int .i64 n1, .int .i64 n2, .string ByteArray.empty], .int .i64 n]) ∧
   Went w w' r b e (headE b p) e' p' ∧ (e' = 0 → n0 = num1 b p ∧ n1 = num1 b (p + 1) ∧ n2 = num1 b (p + 2) ∧ n = num2 b (p + 3) ∧ p' = p + 5) := by
 obtain ⟨_, _, _, _, hr⟩ := h.facts
 have HR := hid (rd_alloc (rd_alloc h (.cells #[.int .i64 0, .int .i64 0, .int .i64 0, .string ⟨#[]⟩] 65)) (.cells #[.int .i64 0, .int .i64 0, .int .i64 0, .string ⟨#[]⟩] 65))
 clear h
 go_enter Tryz.func44, Tryz.ntmps44
 go_wp2_with fail
 refine (number1 b r p 76 (inB 0 9) e _ HR.out hp inputs_fit cf_inputs).mono ?_
 rintro x w1 ⟨n0, p1, e1, rfl, W1, Z1, O1⟩
 have BA1 : Blk w1 w.heap.size (.int .i64 0) (.int .i64 0) (.int .i64 0) (.string ⟨#[]⟩) := (Blk.alloc (blk_alloc w _ _ _ _) _).grown W1.2.1 (by omega)
 have BB1 : Blk w1 (w.heap.size + 1) (.int .i64 0) (.int .i64 0) (.int .i64 0) (.string ⟨#[]⟩) := by
  have := (blk_alloc (w.alloc (.cells #[.int .i64 0, .int .i64 0, .int .i64 0, .string ⟨#[]⟩] 65)) (.int .i64 0) (.int .i64 0) (.int .i64 0) (.string ⟨#[]⟩)).grown W1.2.1 (by simp; omega)
  simpa using this
 have K1 := hid ((((Kept.refl w.heap.size r w).alloc (Nat.le_refl _) (.cells #[.int .i64 0, .int .i64 0, .int .i64 0, .string ⟨#[]⟩] 65)).alloc (by simp) (.cells #[.int .i64 0, .int .i64 0, .int .i64 0, .string ⟨#[]⟩] 65)).grown (by simp; omega) W1.2.1)
 obtain ⟨_, _, _, _, f0, _⟩ := BB1.facts
 have HW1 := hid W1
 clear W1
 go_wp2_with fail
 refine (number1 b r p1 77 outB e1 _ (rd_setFar HW1.out.1 (by omega) _) HW1.out.2.2.2.2 outputs_fit cf_outputs).mono ?_
 rintro x w2 ⟨n1, p2, e2, rfl, W2, Z2, O2⟩
 have BA2 := (BA1.setFar (g' := w.heap.size + 1) (i := 0) (by omega) (.int .i64 n0)).grown W2.2.1 (by omega)
 have BB2 : Blk w2 (w.heap.size + 1) (.int .i64 n0) (.int .i64 0) (.int .i64 0) (.string ⟨#[]⟩) := (show Blk _ (w.heap.size + 1) (.int .i64 n0) (.int .i64 0) (.int .i64 0) (.string ⟨#[]⟩) from BB1.set 0 (.int .i64 n0)).grown W2.2.1 (by omega)
 have K2 := hid ((K1.out.set (by omega) 0 (.int .i64 n0)).grown (by have := K1.out.size; simpa [World.setCell] using this) W2.2.1)
 obtain ⟨_, _, _, _, _, f1, _⟩ := BB2.facts
 have HW2 := hid W2
 clear W2 BA1 BB1
 go_wp2_with fail
 refine (number1 b r p2 78 (inB 0 40) e2 _ (rd_setFar HW2.out.1 (by omega) _) HW2.out.2.2.2.2 max_fits cf_max).mono ?_
 rintro x w3 ⟨n2, p3, e3, rfl, W3, Z3, O3⟩
 have BA3 := (BA2.setFar (g' := w.heap.size + 1) (i := 1) (by omega) (.int .i64 n1)).grown W3.2.1 (by omega)
 have BB3 : Blk w3 (w.heap.size + 1) (.int .i64 n0) (.int .i64 n1) (.int .i64 0) (.string ⟨#[]⟩) := (show Blk _ (w.heap.size + 1) (.int .i64 n0) (.int .i64 n1) (.int .i64 0) (.string ⟨#[]⟩) from BB2.set 1 (.int .i64 n1)).grown W3.2.1 (by omega)
 have K3 := hid ((K2.out.set (by omega) 1 (.int .i64 n1)).grown (by have := K2.out.size; simpa [World.setCell] using this) W3.2.1)
 obtain ⟨_, _, _, _, _, _, f2, _⟩ := BB3.facts
 have HW3 := hid W3
 clear W3 BA2 BB2
 go_wp2
 have BB4 : Blk (w3.setCell ⟨w.heap.size + 1, 2, none⟩ (.int .i64 n2)) (w.heap.size + 1) (.int .i64 n0) (.int .i64 n1) (.int .i64 n2) (.string ⟨#[]⟩) := BB3.set 2 (.int .i64 n2)
 refine wp_region_held_drew (S := fun w' => Blk w' (w.heap.size + 1) (.int .i64 n0) (.int .i64 n1) (.int .i64 n2) (.string ⟨#[]⟩)) (by kernel_rfl) BB4 (fun hHeld => ?_)
 refine tk 0 (.agg #[.int .i64 n0, .int .i64 n1, .int .i64 n2, .string ⟨#[]⟩]) rfl ?hya hHeld ?resta
 case hya =>
  intro w hSw
  obtain ⟨_, _, _, _, _, _, _, _⟩ := hSw.facts
  go_simp
 simp only [Act.put, aA, aB, aC, aD, aE]
 refine tk 1 ?vb1 rfl ?hyb1 hHeld ?restb1
 case hyb1 => intro w hSw; (try dsimp only at hSw); go_simp; try with_reducible rfl
 simp only [Act.put, aA, aB, aC, aD, aE, aF]
 refine rd 2 rfl (fun K hK => ?_)
 simp only [aD, aE, aF]
 go_simp
 refine (number2 b r p3 79 (inB 1 120) e3 _ (rd_drew1 (rd_setFar (g := w.heap.size + 1) HW3.out.1 (by omega) _)) HW3.out.2.2.2.2 code_fits cf_code).mono ?_
 rintro x w4 ⟨n, p4, e4, rfl, W4, Z4, O4⟩
 have BA4 : Blk w4 w.heap.size (.int .i64 0) (.int .i64 0) (.int .i64 0) (.string ⟨#[]⟩) := (BA3.setFar (g' := w.heap.size + 1) (i := 2) (by omega) (.int .i64 n2)).drew.grown W4.2.1 (by omega)
 have BB5 : Blk w4 (w.heap.size + 1) (.int .i64 n0) (.int .i64 n1) (.int .i64 n2) (.string ⟨#[]⟩) := BB4.drew.grown W4.2.1 (by omega)
 have K4 := hid ((K3.out.set (by omega) 2 (.int .i64 n2)).drew.grown (by have := K3.out.size; simpa [World.setCell] using this) W4.2.1)
 have HW4 := hid W4
 clear W4 BA3 BB4 BB3
 go_wp2_with fail
 refine hK.out _ _ BB5 (fun hHeld => ?_)
 clear hK
 obtain ⟨_, _, _, _, g0, g1, g2, g3⟩ := BA4.facts
 refine rd 3 rfl (fun K hK => ?_)
 simp only [aD, aE, aF]
 go_simp
 refine hK.out _ _ ((((hHeld.setFar (by omega) _).setFar (by omega) _).setFar (by omega) _).setFar (by omega) _) (fun hHeld => ?_)
 clear hK
 refine tk 4 ?vz4 rfl ?hyz4 hHeld ?restz4
 case hyz4 => intro w hSw; go_simp; try with_reducible rfl
 simp only [Act.put, aA, aB, aC, aD, aE, aF]
 refine wpAnyH_done (by kernel_rfl) ?_ _
 go_wp2
 have BR : Blk ((((w4.setCell ⟨w.heap.size, 0, none⟩ (.int .i64 n0)).setCell ⟨w.heap.size, 1, none⟩ (.int .i64 n1)).setCell ⟨w.heap.size, 2, none⟩ (.int .i64 n2)).setCell ⟨w.heap.size, 3, none⟩ (.string ⟨#[]⟩)) w.heap.size (.int .i64 n0) (.int .i64 n1) (.int .i64 n2) (.string ⟨#[]⟩) :=
  block_setCell (block_setCell (block_setCell (BA4.set 0 _) _) _) _
 obtain ⟨b0, b1, b2, b3, _⟩ := BR.facts
 refine bodyPost_ret (v := .tuple #[.agg #[.int .i64 n0, .int .i64 n1, .int .i64 n2, .string ⟨#[]⟩], .int .i64 n]) (by simp [results, Tryz.results44, go_sem, b0, b1, b2, b3]) rfl ⟨n0, n1, n2, n, p4, e4, rfl, ?_, ?_⟩
 ·refine ⟨rd_setFar (rd_setFar (rd_setFar (rd_setFar HW4.out.1 (by omega) _) (by omega) _) (by omega) _) (by omega) _, ((((K4.out.set (Nat.le_refl _) 0 _).set (Nat.le_refl _) 1 _).set (Nat.le_refl _) 2 _).set (Nat.le_refl _) 3 _).done, ?_, ?_, HW4.out.2.2.2.2⟩
  ·exact (head_chain b p e e1 e2 e3 e4 p1 p2 p3 p4 HW1.out.2.2 HW2.out.2.2 HW3.out.2.2 HW4.out.2.2 (fun h => (O1 h).2) (fun h => (O2 h).2) (fun h => (O3 h).2)).1
  ·exact (head_chain b p e e1 e2 e3 e4 p1 p2 p3 p4 HW1.out.2.2 HW2.out.2.2 HW3.out.2.2 HW4.out.2.2 (fun h => (O1 h).2) (fun h => (O2 h).2) (fun h => (O3 h).2)).2.1
 ·intro h4
  obtain ⟨h1, h2, h3⟩ := (head_chain b p e e1 e2 e3 e4 p1 p2 p3 p4 HW1.out.2.2 HW2.out.2.2 HW3.out.2.2 HW4.out.2.2 (fun h => (O1 h).2) (fun h => (O2 h).2) (fun h => (O3 h).2)).2.2 h4
  obtain ⟨v1, q1⟩ := O1 h1
  obtain ⟨v2, q2⟩ := O2 h2
  obtain ⟨v3, q3⟩ := O3 h3
  obtain ⟨v4, q4⟩ := O4 h4
  subst q1
  subst q2
  subst q3
  exact ⟨v1, v2, v3, v4, by omega⟩
end Go.Proofs.YtdhmandnamajpaaGreatDoor
namespace Go.Proofs.YtdhmandnamajpaaGreatDoor
open Go.RowKit Go.Joins
structure Mem (w : World) (A H n : Nat) (cs ls : Array Value) (d : ByteArray) : Prop where
 res : w.heap[A]? = some (.cells #[.slice none 0 0, .string ⟨#[]⟩] 40 (0, 0))
 secs : w.heap[H]? = some (.cells cs 65 (0, 0))
 ssize : cs.size = n * 4
 cont : w.heap[H + 1]? = some (.cells #[.slice (some ⟨H, 0, none⟩) n n, .string d] 40 (0, 0))
 lens : w.heap[H + 1 + 1]? = some (.cells ls 97 (0, 0))
 lsize : ls.size = 6
 lnat : ∀ i, i < 6 → ∃ m : Nat, ls[i]? = some (.int .i64 m)
theorem lt_of_some {w : World} {k : Nat} {o : Obj} (h : w.heap[k]? = some o) : k < w.heap.size := by
 rcases Nat.lt_or_ge k w.heap.size with hlt | hge
 ·exact hlt
 ·rw [Array.getElem?_eq_none hge] at h; cases h
theorem keep_block {w w' : World} {r k : Nat} {o : Obj} (h : w.heap[k]? = some o) (hg : w.grownBy w' (some r)) (hne : k ≠ r) : w'.heap[k]? = some o := by
 rw [hg.block k (lt_of_some h) (fun e => hne (Option.some.inj e))]
 exact h
theorem Mem.grown {w w' : World} {A H n r : Nat} {cs ls : Array Value} {d : ByteArray} (h : Mem w A H n cs ls d) (hg : w.grownBy w' (some r)) (h1 : A ≠ r) (h2 : r < H) : Mem w' A H n cs ls d :=
 ⟨keep_block h.res hg h1, keep_block h.secs hg (by omega), h.ssize, keep_block h.cont hg (by omega), keep_block h.lens hg (by omega), h.lsize, h.lnat⟩
theorem Mem.drew {w : World} {A H n : Nat} {cs ls : Array Value} {d : ByteArray} (h : Mem w A H n cs ls d) : Mem w.drew A H n cs ls d := ⟨h.res, h.secs, h.ssize, h.cont, h.lens, h.lsize, h.lnat⟩
theorem Mem.drewN {w : World} {A H n q : Nat} {cs ls : Array Value} {d : ByteArray} (h : Mem w A H n cs ls d) : Mem (w.drewN q) A H n cs ls d := ⟨h.res, h.secs, h.ssize, h.cont, h.lens, h.lsize, h.lnat⟩
theorem Mem.setSec {w : World} {A H n : Nat} {cs ls : Array Value} {d : ByteArray} (h : Mem w A H n cs ls d) (hA : A < H) (i : Nat) (v : Value) : Mem (w.setCell ⟨H, i, none⟩ v) A H n (cs.setIfInBounds i v) ls d :=
 ⟨by rw [Below.heap_setCell _ _ _ _ (by show A ≠ H; omega)]; exact h.res, block_setCell h.secs v, by simp [h.ssize], by rw [Below.heap_setCell _ _ _ _ (by show H + 1 ≠ H; omega)]; exact h.cont, by rw [Below.heap_setCell _ _ _ _ (by show H + 1 + 1 ≠ H; omega)]; exact h.lens, h.lsize, h.lnat⟩
theorem Mem.setLen {w : World} {A H n : Nat} {cs ls : Array Value} {d : ByteArray} (h : Mem w A H n cs ls d) (hA : A < H) (i m : Nat) : Mem (w.setCell ⟨H + 1 + 1, i, none⟩ (.int .i64 m)) A H n cs (ls.setIfInBounds i (.int .i64 m)) d :=
 ⟨by rw [Below.heap_setCell _ _ _ _ (by show A ≠ H + 1 + 1; omega)]; exact h.res, by rw [Below.heap_setCell _ _ _ _ (by show H ≠ H + 1 + 1; omega)]; exact h.secs, h.ssize, by rw [Below.heap_setCell _ _ _ _ (by show H + 1 ≠ H + 1 + 1; omega)]; exact h.cont, block_setCell h.lens _, by simp [h.lsize], fun j hj => by
  by_cases e : i = j
  ·subst e; exact ⟨m, by rw [Array.getElem?_setIfInBounds_self_of_lt (by rw [h.lsize]; exact hj)]⟩
  ·rw [Array.getElem?_setIfInBounds_ne e]; exact h.lnat j hj⟩
theorem Mem.setDat {w : World} {A H n : Nat} {cs ls : Array Value} {d : ByteArray} (h : Mem w A H n cs ls d) (hA : A < H) (t : ByteArray) : Mem (w.setCell ⟨H + 1, 1, none⟩ (.string t)) A H n cs ls t :=
 ⟨by rw [Below.heap_setCell _ _ _ _ (by show A ≠ H + 1; omega)]; exact h.res, by rw [Below.heap_setCell _ _ _ _ (by show H ≠ H + 1; omega)]; exact h.secs, h.ssize, block_setCell h.cont _, by rw [Below.heap_setCell _ _ _ _ (by show H + 1 + 1 ≠ H + 1; omega)]; exact h.lens, h.lsize, h.lnat⟩
theorem Mem.old {w : World} {A H n : Nat} {cs ls : Array Value} {d : ByteArray} (h : Mem w A H n cs ls d) (i : Nat) (hi : i < n * 4) : ∃ v, w.cell? ⟨H, i, none⟩ = some v := by
 rw [cell_of_block h.secs]
 exact ⟨_, Array.getElem?_eq_getElem (by rw [h.ssize]; exact hi)⟩
theorem Mem.oldLen {w : World} {A H n : Nat} {cs ls : Array Value} {d : ByteArray} (h : Mem w A H n cs ls d) (i : Nat) (hi : i < 6) : ∃ v, w.cell? ⟨H + 1 + 1, i, none⟩ = some v := by
 rw [cell_of_block h.lens]
 exact ⟨_, Array.getElem?_eq_getElem (by rw [h.lsize]; exact hi)⟩
def SecDone (b : ByteArray) (cs : Array Value) (k : Nat) : Prop := ∀ i, i < k → cs[i * 4]? = some (.int .i64 (hsec b i).i) ∧ cs[i * 4 + 1]? = some (.int .i64 (hsec b i).o) ∧ cs[i * 4 + 2]? = some (.int .i64 (hsec b i).m)
def LenDone (b : ByteArray) (ls : Array Value) (k : Nat) : Prop := ∀ i, i < k → ls[i]? = some (.int .i64 (clen b i))
def CodeDone (b : ByteArray) (n : Nat) (cs : Array Value) (k : Nat) : Prop := ∀ i, i < k → cs[i * 4 + 3]? = some (.string (psec b n i).code)
theorem SecDone.step {b : ByteArray} {cs : Array Value} {k n : Nat} (h : SecDone b cs k) (hs : cs.size = n * 4) (hk : k < n) (v : Value) :
  SecDone b ((((cs.setIfInBounds (k * 4) (.int .i64 (num1 b (3 + 5 * k) : Nat))).setIfInBounds (k * 4 + 1) (.int .i64 (num1 b (3 + 5 * k + 1) : Nat))).setIfInBounds (k * 4 + 2) (.int .i64 (num1 b (3 + 5 * k + 2) : Nat))).setIfInBounds (k * 4 + 3) v) (k + 1) := by
 intro i hi
 by_cases e : i = k
 ·subst e
  refine ⟨?_, ?_, ?_⟩
  ·rw [Array.getElem?_setIfInBounds_ne (by omega), Array.getElem?_setIfInBounds_ne (by omega), Array.getElem?_setIfInBounds_ne (by omega), Array.getElem?_setIfInBounds_self_of_lt (by omega)]; rfl
  ·rw [Array.getElem?_setIfInBounds_ne (by omega), Array.getElem?_setIfInBounds_ne (by omega), Array.getElem?_setIfInBounds_self_of_lt (by simp; omega)]; rfl
  ·rw [Array.getElem?_setIfInBounds_ne (by omega), Array.getElem?_setIfInBounds_self_of_lt (by simp; omega)]; rfl
 ·obtain ⟨h0, h1, h2⟩ := h i (by omega)
  refine ⟨?_, ?_, ?_⟩
  ·rw [Array.getElem?_setIfInBounds_ne (by omega), Array.getElem?_setIfInBounds_ne (by omega), Array.getElem?_setIfInBounds_ne (by omega), Array.getElem?_setIfInBounds_ne (by omega)]; exact h0
  ·rw [Array.getElem?_setIfInBounds_ne (by omega), Array.getElem?_setIfInBounds_ne (by omega), Array.getElem?_setIfInBounds_ne (by omega), Array.getElem?_setIfInBounds_ne (by omega)]; exact h1
  ·rw [Array.getElem?_setIfInBounds_ne (by omega), Array.getElem?_setIfInBounds_ne (by omega), Array.getElem?_setIfInBounds_ne (by omega), Array.getElem?_setIfInBounds_ne (by omega)]; exact h2
theorem LenDone.step {b : ByteArray} {ls : Array Value} {k : Nat} (h : LenDone b ls k) (hs : ls.size = 6) (hk : k < 6) : LenDone b (ls.setIfInBounds k (.int .i64 (clen b k : Nat))) (k + 1) := by
 intro i hi
 by_cases e : i = k
 ·subst e; rw [Array.getElem?_setIfInBounds_self_of_lt (by omega)]
 ·rw [Array.getElem?_setIfInBounds_ne (by omega)]; exact h i (by omega)
theorem SecDone.code {b : ByteArray} {cs : Array Value} {k : Nat} (h : SecDone b cs k) (j : Nat) (v : Value) : SecDone b (cs.setIfInBounds (j * 4 + 3) v) k := by
 intro i hi
 obtain ⟨h0, h1, h2⟩ := h i hi
 exact ⟨by rw [Array.getElem?_setIfInBounds_ne (by omega)]; exact h0, by rw [Array.getElem?_setIfInBounds_ne (by omega)]; exact h1, by rw [Array.getElem?_setIfInBounds_ne (by omega)]; exact h2⟩
theorem CodeDone.step {b : ByteArray} {cs : Array Value} {k n : Nat} (h : CodeDone b n cs k) (hs : n * 4 ≤ cs.size) (hk : k < n) : CodeDone b n (cs.setIfInBounds (k * 4 + 3) (.string (psec b n k).code)) (k + 1) := by
 intro i hi
 by_cases e : i = k
 ·subst e; rw [Array.getElem?_setIfInBounds_self_of_lt (by omega)]
 ·rw [Array.getElem?_setIfInBounds_ne (by omega)]; exact h i (by omega)
theorem secs_at {w : World} {H n : Nat} {cs : Array Value} {b : ByteArray} (h : w.heap[H]? = some (.cells cs 65 (0, 0))) (hs : SecDone b cs n) (hc : CodeDone b n cs n) : SecsAt w H 0 (psecs b n) := by
 refine ⟨lt_of_some h, fun k s hk => ?_⟩
 have hkn : k < n := by
  have := (List.getElem?_eq_some_iff.1 hk).1
  simpa [psecs] using this
 have : s = psec b n k := by
  simp [psecs, hkn] at hk
  exact hk.symm
 subst this
 obtain ⟨h0, h1, h2⟩ := hs k hkn
 have h3 := hc k hkn
 simp only [Nat.zero_add]
 exact ⟨by rw [cell_of_block h]; exact h0, by rw [cell_of_block h]; exact h1, by rw [cell_of_block h]; exact h2, by rw [cell_of_block h]; exact h3⟩
theorem Kept.below {B B' r : Nat} {w w' : World} (h : Kept B r w w') (h1 : B' ≤ B) (h2 : B' ≤ r) : Below B' w w' := ⟨h.os, h.tape, h.output, h.size, fun k hk => h.block k (by omega) (by omega)⟩
theorem psecs_length (b : ByteArray) (n : Nat) : (psecs b n).length = n := by simp [psecs]
end Go.Proofs.YtdhmandnamajpaaGreatDoor
namespace Go.Proofs.YtdhmandnamajpaaGreatDoor
theorem er_zero {b : ByteArray} {p k : Nat} {ok : Bool} (h : er b p k ok = 0) : p + k ≤ b.size ∧ ok = true := by
 unfold er at h
 by_cases h1 : b.size < p + k
 ·rw [if_pos h1] at h; simp at h
 ·rw [if_neg h1] at h
  cases ok with
  | true => exact ⟨by omega, rfl⟩
  | false => simp at h
theorem start_chain (b : ByteArray) (e1 e2 : Int) (p1 : Nat) (h1 : e1 = beginE b) (q1 : e1 = 0 → p1 = 2) (h2 : e1 ≠ 0 → e2 = e1) (h3 : e1 = 0 → e2 = er b p1 1 (inB 1 6 (num1 b p1 : Int))) :
  (magicB b = true → e2 = 1) ∧ (magicB b = false → e2 = er b 2 1 (inB 1 6 (num1 b 2 : Int))) ∧ (e2 = 0 → e1 = 0 ∧ p1 = 2 ∧ 3 ≤ b.size ∧ inB 1 6 (num1 b 2 : Int) = true) := by
 have key : e2 = 0 → e1 = 0 := fun h => Decidable.byContradiction fun n => n ((h2 n).symm.trans h)
 refine ⟨fun hm => ?_, fun hm => ?_, fun h => ?_⟩
 ·have : e1 = 1 := by rw [h1]; simp [beginE, hm]
  rw [h2 (by rw [this]; decide), this]
 ·by_cases hs : b.size < 2
  ·have : e1 = 2 := by rw [h1]; simp [beginE, hm, hs]
   rw [h2 (by rw [this]; decide), this]
   unfold er
   rw [if_pos (by omega)]
  ·have : e1 = 0 := by rw [h1]; simp [beginE, hm, hs]
   rw [h3 this, q1 this]
 ·have z := key h
  have hp := q1 z
  have := h3 z
  rw [h, hp] at this
  obtain ⟨a, c⟩ := er_zero this.symm
  exact ⟨z, hp, by omega, c⟩
theorem parse_chain (b : ByteArray) (n dl p q q' : Nat) (e2 e e4 f f' f7 : Int)
  (m1 : magicB b = true → e2 = 1) (m2 : magicB b = false → e2 = er b 2 1 (inB 1 6 (num1 b 2 : Int))) (hn : e2 = 0 → n = num1 b 2)
  (a1 : e2 ≠ 0 → e = e2) (a2 : e2 = 0 → e = headsE b n) (hp : e = 0 → p = 3 + 5 * n)
  (b1 : e ≠ 0 → e4 = e) (b2 : e = 0 → e4 = er b p 2 (inB 0 60 (num2 b p : Int)))
  (c1 : e4 ≠ 0 → f = e4) (c2 : e4 = 0 → f = codE b n n) (hq : f = 0 → q = cpos b n n) (hd : f = 0 → dl = dlen b n)
  (d1 : f ≠ 0 → f' = f) (d2 : f = 0 → f' = if b.size < q + dl then 2 else 0) (hq' : f' = 0 → q' = q + dl)
  (g1 : f' ≠ 0 → f7 = f') (g2 : f' = 0 → f7 = if q' < b.size then 4 else 0) :
  f7 = parseE b ∧ (f7 = 0 → e2 = 0 ∧ e = 0 ∧ e4 = 0 ∧ f = 0 ∧ f' = 0) := by
 have k7 : f7 = 0 → f' = 0 := fun h => Decidable.byContradiction fun n => n ((g1 n).symm.trans h)
 have k6 : f' = 0 → f = 0 := fun h => Decidable.byContradiction fun n => n ((d1 n).symm.trans h)
 have k5 : f = 0 → e4 = 0 := fun h => Decidable.byContradiction fun n => n ((c1 n).symm.trans h)
 have k4 : e4 = 0 → e = 0 := fun h => Decidable.byContradiction fun n => n ((b1 n).symm.trans h)
 have k3 : e = 0 → e2 = 0 := fun h => Decidable.byContradiction fun n => n ((a1 n).symm.trans h)
 refine ⟨?_, fun h => ⟨k3 (k4 (k5 (k6 (k7 h)))), k4 (k5 (k6 (k7 h))), k5 (k6 (k7 h)), k6 (k7 h), k7 h⟩⟩
 have up : e4 ≠ 0 → f7 = e4 := fun h => by
  have x1 := c1 h
  have x2 := d1 (by rw [x1]; exact h)
  rw [g1 (by rw [x2, x1]; exact h), x2, x1]
 have up2 : e ≠ 0 → f7 = e := fun h => by
  have x1 := b1 h
  rw [up (by rw [x1]; exact h), x1]
 have up3 : e2 ≠ 0 → f7 = e2 := fun h => by
  have x1 := a1 h
  rw [up2 (by rw [x1]; exact h), x1]
 unfold parseE
 cases hm : magicB b with
 | true =>
  have x := m1 hm
  rw [up3 (by rw [x]; decide), x]
  simp
 | false =>
  have x := m2 hm
  rw [← x]
  by_cases z2 : e2 = 0
  ·have hnn := hn z2
   have xe := a2 z2
   simp only [z2]
   rw [← hnn]
   unfold bodyE
   rw [← xe]
   by_cases z : e = 0
   ·have hpp := hp z
    have x4 := b2 z
    rw [hpp] at x4
    unfold tailE
    simp only [z]
    show f7 = if er b (3 + 5 * n) 2 (inB 0 60 (num2 b (3 + 5 * n) : Int)) ≠ 0 then er b (3 + 5 * n) 2 (inB 0 60 (num2 b (3 + 5 * n) : Int)) else _
    rw [← x4]
    by_cases z4 : e4 = 0
    ·have xf := c2 z4
     simp only [z4]
     by_cases zf : f = 0
     ·have hqq := hq zf
      have hdd := hd zf
      have xf' := d2 zf
      rw [hqq, hdd] at xf'
      by_cases y : b.size < pend b n
      ·have : f' = 2 := by rw [xf', if_pos (show b.size < cpos b n n + dlen b n from y)]
       rw [g1 (by rw [this]; decide), this]
       simp [y]
      ·have h0 : f' = 0 := by rw [xf', if_neg (show ¬ b.size < cpos b n n + dlen b n from y)]
       rw [g2 h0, hq' h0, hqq, hdd]
       simp only [y]
       rfl
     ·have xf2 := xf
      unfold codE at xf2
      by_cases y : b.size < cpos b n n
      ·rw [if_pos y] at xf2
       have x1 := d1 zf
       rw [g1 (by rw [x1]; exact zf), x1, xf2]
       have : b.size < pend b n := by unfold pend; omega
       simp [this]
      ·rw [if_neg y] at xf2; exact absurd xf2 zf
    ·rw [up z4]
     simp [z4]
   ·rw [up2 z]
    simp [z]
  ·rw [up3 z2]
   simp [z2]
end Go.Proofs.YtdhmandnamajpaaGreatDoor
