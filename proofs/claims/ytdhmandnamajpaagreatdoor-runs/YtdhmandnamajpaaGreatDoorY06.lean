import Derived.Test.YtdhmandnamajpaaGreatDoorY00
import Derived.Test.YtdhmandnamajpaaGreatDoorY05
import Derived.Deep.AppendLies
import Derived.Test.YtdhmandnamajpaaGreatDoorY02
namespace Go.Proofs.YtdhmandnamajpaaGreatDoor
open Go.RowKit Go.Joins
set_option maxHeartbeats 1000000
set_option maxRecDepth 4000
def MachX (w0 w : World) (M B : Nat) (F : Fix) (m : MS) : Prop := ∃ frV stV outV, Mach w0 w M B F m frV stV outV
theorem MachX.below {w0 w w' : World} {M B : Nat} {F : Fix} {m : MS} (h : MachX w0 w M B F m) (hb : Below w.heap.size w w') (hB : B ≤ w.heap.size) : MachX w0 w' M B F m := by
 obtain ⟨a, b, c, h⟩ := h
 exact ⟨a, b, c, h.below hb hB⟩
def MachY (w0 w : World) (M B : Nat) (F : Fix) (m : MS) (frV outV : Value) : Prop := ∃ stV, Mach w0 w M B F m frV stV outV
theorem MachY.x {w0 w : World} {M B : Nat} {F : Fix} {m : MS} {frV outV : Value} (h : MachY w0 w M B F m frV outV) : MachX w0 w M B F m := by
 obtain ⟨s, h⟩ := h
 exact ⟨_, _, _, h⟩
theorem MachX.y {w0 w : World} {M B : Nat} {F : Fix} {m : MS} (h : MachX w0 w M B F m) : ∃ frV outV, MachY w0 w M B F m frV outV := by
 obtain ⟨a, b, c, h⟩ := h
 exact ⟨a, c, b, h⟩
theorem MachY.below {w0 w w' : World} {M B : Nat} {F : Fix} {m : MS} {frV outV : Value} (h : MachY w0 w M B F m frV outV) (hb : Below w.heap.size w w') (hB : B ≤ w.heap.size) : MachY w0 w' M B F m frV outV := by
 obtain ⟨a, h⟩ := h
 exact ⟨a, h.below hb hB⟩
def KT (w w' : World) : Prop := ∀ (k : Nat) (cs : Array Value) (ty : TypeId) (fz : Nat × Nat), w.heap[k]? = some (.cells cs ty fz) → ty ≠ 88 → ty ≠ 85 → ty ≠ 81 → ty ≠ 3 → w'.heap[k]? = some (.cells cs ty fz)
theorem KT.refl (w : World) : KT w w := fun _ _ _ _ h _ _ _ _ => h
theorem KT.trans {a b c : World} (h : KT a b) (g : KT b c) : KT a c := fun k cs ty fz e h1 h2 h3 h4 => g k cs ty fz (h k cs ty fz e h1 h2 h3 h4) h1 h2 h3 h4
theorem KT.below {w w' : World} (hb : Below w.heap.size w w') : KT w w' := fun _ _ _ _ e _ _ _ _ => keepB hb e
theorem KT.set {w : World} {M : Nat} {cs : Array Value} {fz : Nat × Nat} (h : w.heap[M]? = some (.cells cs 88 fz)) (i : Nat) (v : Value) : KT w (w.setCell ⟨M, i, none⟩ v) := fun k cs' ty fz' e h1 _ _ _ => by
 refine (Below.heap_setCell _ _ _ _ ?_).trans e
 intro e2
 subst e2
 rw [h] at e
 injection e with e
 injection e with e3 e4 e5
 exact h1 e4.symm
theorem KT.row {w : World} {g : Nat} {cs : Array Value} {fz : Nat × Nat} (h : w.heap[g]? = some (.cells cs 85 fz)) (i : Nat) (v : Value) : KT w (w.setCell ⟨g, i, none⟩ v) := fun k cs' ty fz' e _ h2 _ _ => by
 refine (Below.heap_setCell _ _ _ _ ?_).trans e
 intro e2
 subst e2
 rw [h] at e
 injection e with e
 injection e with e3 e4 e5
 exact h2 e4.symm
theorem KT.grown {w w' : World} {B ty sz n : Nat} {v : Value} {xs : List Value} (hr : w.ownsRow B ty sz v n xs) (hg : w.grownBy w' v.ownBlock) (ht : ty = 85 ∨ ty = 81 ∨ ty = 3) : KT w w' := fun k cs' ty' fz' e _ h2 h3 h4 => by
 refine (hg.block k (blt e) ?_).trans e
 intro e2
 rcases hr.2 with ⟨rfl, _⟩ | ⟨g, cap, cur, rfl, _, hg', _⟩
 ·simp [Value.ownBlock] at e2
 ·simp [Value.ownBlock] at e2
  subst e2
  rw [hg'] at e
  injection e with e
  injection e with e3 e4 e5
  rcases ht with q | q | q
  ·exact h2 (e4.symm.trans q)
  ·exact h3 (e4.symm.trans q)
  ·exact h4 (e4.symm.trans q)
def DoY (w0 w : World) (M B : Nat) (F : Fix) (m : MS) (frV outV : Value) (r : Value) : Ending → World → Prop := fun e w' => e = .returned r ∧ MachY w0 w' M B F m frV outV ∧ B ≤ w'.heap.size ∧ KT w w' ∧ w.heap.size ≤ w'.heap.size
def DoP (w0 w : World) (M B : Nat) (F : Fix) (m : MS) : Ending → World → Prop := fun e w' => e = .returned (.tuple #[]) ∧ MachX w0 w' M B F m ∧ B ≤ w'.heap.size ∧ KT w w' ∧ w.heap.size ≤ w'.heap.size
theorem news16 (w : World) (x : Value) (g : Nat) (hg : g = w.heap.size) : ∀ j u, [x][j]? = some u → (w.alloc (.cells #[x] 85)).cell? ((⟨g, 0, none⟩ : Addr).add j) = some u := by
 intro j u hj
 subst hg
 have hb : (w.alloc (.cells #[x] 85)).heap[w.heap.size]? = some (.cells #[x] 85 (0, 0)) := heap_alloc_new w _
 exact World.news_of_block hb j u hj
theorem one16 (x : Int) : ∀ u ∈ [Value.int .u16 x], u.oneCell' = true := by
 intro u hu
 simp at hu
 subst hu
 rfl
theorem st_lay {w0 w : World} {M B : Nat} {F : Fix} {m : MS} {frV outV : Value} (h : MachY w0 w M B F m frV outV) (v : Nat) (hB : B ≤ w.heap.size) (hl : m.st.length ≤ 100) :
  Calls Tryz.prog 128 #[.pointer (some ⟨M, 7, none⟩), .int .u16 (v : Nat)] w (DoY w0 w M B F { m with st := m.st ++ [v] } frV outV (.tuple #[])) := by
 obtain ⟨iz, hiz, hzz0, hzz1, hzz2⟩ := info_parts Tryz.info16
 obtain ⟨stV, h⟩ := h
 have hM := h.size
 have hc7 := h.c7
 have hf7 := h.froz 7
 obtain ⟨sa, sc, rfl⟩ := row_form h.st
 have HM := hidc (h.below ((Below.refl _ _).alloc (Nat.le_refl _) (.cells #[.int .u16 (v : Nat)] 85)) hB)
 have hlt := h.lt
 have HK0 : Hid (KT w (w.alloc (.cells #[.int .u16 (v : Nat)] 85))) := KT.below ((Below.refl _ _).alloc (Nat.le_refl _) _)
 clear h
 go_enter Tryz.func128, Tryz.ntmps128
 go_wp2_with (at_builtin; refine wpList_append_lies _ rfl (.tmp 7) (.tmp 9) 84 rfl B 85 iz (.int .u16 0) 1 2 Tryz.underlying84 hiz hzz0 hzz1 hzz2 rfl (by decide) _ m.st.length (uV m.st) rfl HM.out.st ⟨w.heap.size, 0, none⟩ 1 1 [.int .u16 (v : Nat)] rfl rfl (news16 _ _ _ rfl) (one16 _) (by decide) (by unfold maxLen; omega) (by omega) (by simp; omega) _ rfl ?_)
 intro ga ca w5 hown5 hgrow5 hat5 hlt5
 have hown' : w5.ownsRow B 85 1 (.slice (some ⟨ga, 0, none⟩) (m.st.length + 1) ca) (m.st ++ [v]).length (uV (m.st ++ [v])) := by
  have : (m.st ++ [v]).length = m.st.length + 1 := by simp
  rw [this, show uV (m.st ++ [v]) = uV m.st ++ [.int .u16 (v : Nat)] by simp [uV]]
  exact hown5
 have HG := hidc (HM.out.grow_st (by simp; omega) _ (m.st ++ [v]) hgrow5 hown')
 have hB5 : B ≤ w5.heap.size := by have := hgrow5.size; simp at this; omega
 have hS5 : w.heap.size ≤ w5.heap.size := by have := hgrow5.size; simp at this; omega
 have HK5 : Hid (KT w (w5.setCell ⟨M, 7, none⟩ (.slice (some ⟨ga, 0, none⟩) (m.st.length + 1) ca))) := by
  obtain ⟨_, ⟨cs, e, _⟩, _⟩ := HM.out.grown hgrow5 (by simp; omega) (fun k hk => (HM.out.st.lt k hk).1)
  exact (HK0.out.trans (KT.grown HM.out.st hgrow5 (.inl rfl))).trans (KT.set e _ _)
 have c7' : w5.cell? ⟨M, 7, none⟩ = some (.slice sa m.st.length sc) := ((HM.out.grown hgrow5 (by simp; omega) (fun k hk => (HM.out.st.lt k hk).1)).1 7).trans HM.out.c7
 have f7' : w5.frozen? ⟨M, 7, none⟩ = false := by obtain ⟨_, ⟨cs, e, _⟩, _⟩ := HM.out.grown hgrow5 (by simp; omega) (fun k hk => (HM.out.st.lt k hk).1); exact unfrozen_of_block e 7
 have hM5 : M < w5.heap.size := by omega
 clear hown5 hgrow5 hat5 hlt5 hown' hc7 hf7
 go_wp2_with fail
 go_end0
 exact ⟨rfl, ⟨_, HG.out⟩, by simpa [World.setCell] using hB5, HK5.out, by simpa [World.setCell] using hS5⟩
theorem topN_get (st : List Nat) (n : Nat) (h : n < st.length) : (uV st)[st.length - 1 - n]? = some (.int .u16 (topN st n : Nat)) := by
 simp [uV, topN, List.getD, show st.length - 1 - n < st.length by omega]
theorem uV_take (st : List Nat) (k : Nat) : uV (st.take k) = (uV st).take k := by simp [uV]
theorem st_take {w0 w : World} {M B : Nat} {F : Fix} {m : MS} {frV outV : Value} (h : MachY w0 w M B F m frV outV) (hB : B ≤ w.heap.size) (hl : m.st.length ≤ 200) (h1 : 1 ≤ m.st.length) :
  Calls Tryz.prog 129 #[.pointer (some ⟨M, 7, none⟩)] w (DoY w0 w M B F { m with st := dropN m.st 1 } frV outV (.int .u16 (topN m.st 0 : Nat))) := by
 obtain ⟨stV, h⟩ := h
 have hM := h.size
 have hc7 := h.c7
 have hf7 := h.froz 7
 obtain ⟨sa, sc, rfl⟩ := row_form h.st
 obtain ⟨g, rfl, hgB, hgs, hcg⟩ := row_cell h.st (topN_get m.st 0 (by omega))
 have hrow := row_cut h.st (show m.st.length - 1 ≤ m.st.length by omega)
 have hcap : m.st.length ≤ sc := by
  rcases h.st.2 with ⟨e1, _⟩ | ⟨g', cap, cur, hv, _, _, h3, _⟩
  ·cases e1
  ·injection hv with q1 q2 q3; omega
 have HM := hidc (h.cut_st (.slice (some ⟨g, 0, none⟩) (m.st.length - 1) sc) (dropN m.st 1) (by rw [dropN_len, dropN, uV_take, Nat.mul_one] at *; exact hrow))
 have hw1 : wrap64 ((m.st.length : Int) - 1) = ((m.st.length - 1 : Nat) : Int) := by unfold wrap64; omega
 have hw2 : (m.st.length : Int) - 1 = ((m.st.length - 1 : Nat) : Int) := by omega
 rw [show m.st.length - 1 - 0 = m.st.length - 1 by omega] at hcg
 have hlt1 : m.st.length - 1 < m.st.length := by omega
 have hne : g ≠ M := by have := h.lt; omega
 have HK : Hid (∀ v, KT w (w.setCell ⟨M, 7, none⟩ v)) := by
  obtain ⟨cs, e, _⟩ := h.blk
  exact fun v => KT.set e _ _
 clear h hrow
 generalize hn : m.st.length = n at *
 generalize hn1 : n - 1 = n1 at *
 have HN := hidc hn
 have HN1 := hidc hn1
 clear hn hn1
 go_enter Tryz.func129, Tryz.ntmps129
 go_wp2_with fail
 go_ret
 exact ⟨rfl, ⟨_, HM.out⟩, by simpa [World.setCell] using hB, HK.out _, by simp [World.setCell]⟩
theorem topN_drop (st : List Nat) (h : 2 ≤ st.length) : topN (dropN st 1) 0 = topN st 1 := by
 have hl : (List.take (st.length - 1) st).length = st.length - 1 := by simp
 simp only [topN, dropN, List.getD, hl]
 rw [List.getElem?_take_of_lt (by omega)]
 congr 2
theorem dropN_drop (st : List Nat) : dropN (dropN st 1) 1 = dropN st 2 := by
 unfold dropN
 rw [List.take_take, List.length_take]
 congr 1
 omega
theorem st_takeTwo {w0 w : World} {M B : Nat} {F : Fix} {m : MS} {frV outV : Value} (h : MachY w0 w M B F m frV outV) (hB : B ≤ w.heap.size) (hl : m.st.length ≤ 200) (h2 : 2 ≤ m.st.length) :
  Calls Tryz.prog 130 #[.pointer (some ⟨M, 7, none⟩)] w (DoY w0 w M B F { m with st := dropN m.st 2 } frV outV (.tuple #[.int .u16 (topN m.st 1 : Nat), .int .u16 (topN m.st 0 : Nat)])) := by
 have HM := hidc h
 clear h
 go_enter Tryz.func130, Tryz.ntmps130
 go_wp2_with fail
 refine (st_take HM.out hB hl (by omega)).mono ?_
 rintro e w1 ⟨rfl, hm1, hB1, hk1, hs1⟩
 have HM1 := hidc hm1
 have HK1 := hidc hk1
 have HT := hidc (topN_drop m.st h2)
 have HD := hidc (dropN_drop m.st)
 clear hm1 hk1
 go_wp2_with fail
 refine (st_take HM1.out hB1 (by simp only [dropN_len]; omega) (by simp only [dropN_len]; omega)).mono ?_
 rintro e w2 ⟨rfl, hm2, hB2, hk2, hs2⟩
 have HM2 := hidc hm2
 have HK2 := hidc hk2
 clear hm2 hk2
 rw [HT.out]
 go_wp2_with fail
 go_ret2
 refine ⟨rfl, ?_, hB2, HK1.out.trans HK2.out, by omega⟩
 have := HM2.out
 rw [HD.out] at this
 exact this
theorem m_end {w0 w : World} {M B : Nat} {F : Fix} {m : MS} (h : MachX w0 w M B F m) (hB : B ≤ w.heap.size) (v : Nat) :
  Calls Tryz.prog 56 #[.pointer (some ⟨M, 0, none⟩), .int .i64 (v : Nat)] w (DoP w0 w M B F { m with fin := some v }) := by
 obtain ⟨frV, stV, outV, h⟩ := h
 have hM := h.size
 have c24 := h.c24
 have c28 := h.c28
 have f24 := h.froz 24
 have f28 := h.froz 28
 have HM := hidc (h.set_end v)
 have HK : Hid (KT w ((w.setCell ⟨M, 24, none⟩ (.int .i64 (v : Nat))).setCell ⟨M, 28, none⟩ (.bool true))) := by
  obtain ⟨cs, e, _⟩ := h.blk
  exact (KT.set e _ _).trans (KT.set (block_setCell e _) _ _)
 clear h
 go_enter Tryz.func56, Tryz.ntmps56
 go_wp2_with fail
 go_end0
 exact ⟨rfl, ⟨_, _, _, HM.out⟩, by simpa [World.setCell] using hB, HK.out, by simp [World.setCell]⟩
theorem mach_truth (p : Bool) (w : World) : Calls Tryz.prog 131 #[.bool p] w fun e w' => e = .returned (.int .u16 ((if p then 1 else 0 : Nat) : Int)) ∧ w' = w := by
 cases p <;> (go_enter Tryz.func131, Tryz.ntmps131; go_wp2; go_ret; exact ⟨rfl, rfl⟩)
theorem st_under (a : Option Addr) (n c k : Nat) (w : World) (hn : n ≤ 200) (hk : k < n) : Calls Tryz.prog 132 #[.slice a n c, .int .i64 (k : Nat)] w fun e w' => e = .returned (.int .i64 ((n - 1 - k : Nat) : Int)) ∧ w' = w := by
 have h1 : ((n - 1 - k : Nat) : Int) = (n : Int) - 1 - k := by omega
 rw [h1]
 go_enter Tryz.func132, Tryz.ntmps132
 go_wp2
 go_ret
 exact ⟨rfl, rfl⟩
theorem insn_cost (x : Ins) (v : Value) (w : World) (hR : RowsAt w) (ho : x.op < 21) :
  Calls Tryz.prog 55 #[.agg #[.int .i64 x.op, .int .i64 x.pl, .int .i64 x.nx, .int .i64 x.n, v]] w fun e w' => e = .returned (.int .i64 (costT x.op : Nat)) ∧ Below w.heap.size w w' := by
 obtain ⟨_, _, _, r3, _⟩ := (hR.alloc (.cells #[.int .i64 x.op, .int .i64 x.pl, .int .i64 x.nx, .int .i64 x.n, v] 116)).2 _ ho
 go_enter Tryz.func55, Tryz.ntmps55
 go_wp2
 go_ret
 exact ⟨rfl, (Below.refl _ _).alloc (Nat.le_refl _) _⟩
end Go.Proofs.YtdhmandnamajpaaGreatDoor
namespace Go.Proofs.YtdhmandnamajpaaGreatDoor
open Go.RowKit Go.Joins
set_option maxHeartbeats 1000000
set_option maxRecDepth 4000
theorem boxB (w : World) (o : Obj) : Below w.heap.size w (w.alloc o) := (Below.refl _ _).alloc (Nat.le_refl _) _
theorem w16_wrap (x : Int) : IntKind.u16.wrap x = ((w16 x : Nat) : Int) := by
 unfold w16
 simp only [IntKind.wrap, IntKind.bits, IntKind.signed]
 simp
 omega
theorem KT.cell {w w' : World} {k i : Nat} {cs : Array Value} {ty : TypeId} {fz : Nat × Nat} (h : KT w w') (e : w.heap[k]? = some (.cells cs ty fz)) (h1 : ty ≠ 88) (h2 : ty ≠ 85) (h3 : ty ≠ 81) (h4 : ty ≠ 3) : w'.cell? ⟨k, i, none⟩ = w.cell? ⟨k, i, none⟩ := World.cell?_of_block (w := w) ((h k cs ty fz e h1 h2 h3 h4).trans e.symm)
theorem do_stop {w0 w : World} {M B : Nat} {F : Fix} {m : MS} (h : MachX w0 w M B F m) (hB : B ≤ w.heap.size) (x : Ins) (ta : Option Addr) (tc : Nat)  :
  Calls Tryz.prog 89 #[.pointer (some ⟨M, 0, none⟩), .agg #[.int .i64 x.op, .int .i64 x.pl, .int .i64 x.nx, .int .i64 x.n, .slice ta x.to.length tc]] w (DoP w0 w M B F ({ m with fin := some 0 })) := by
 obtain ⟨frV, outV, hy⟩ := h.y
 have hM : M < w.heap.size := by obtain ⟨_, _, _, q⟩ := h; exact q.size
 have hlt : M < B := by obtain ⟨_, _, _, q⟩ := h; exact q.lt
 have HM := hidc (hy.below (boxB w (.cells #[.int .i64 x.op, .int .i64 x.pl, .int .i64 x.nx, .int .i64 x.n, .slice ta x.to.length tc] 116)) hB)
 have hB1 : B ≤ (w.alloc (.cells #[.int .i64 x.op, .int .i64 x.pl, .int .i64 x.nx, .int .i64 x.n, .slice ta x.to.length tc] 116)).heap.size := by simp; omega
 have HK0 := hidc (KT.below (boxB w (.cells #[.int .i64 x.op, .int .i64 x.pl, .int .i64 x.nx, .int .i64 x.n, .slice ta x.to.length tc] 116)))
 clear h hy
 go_enter Tryz.func89, Tryz.ntmps89
 go_wp2_with fail
 refine (m_end HM.out.x hB1 0).mono ?_
 rintro e w2 ⟨rfl, hm, hB2, hk, hs⟩
 have HM2 := hidc hm
 have HK2 := hidc hk
 clear hm hk
 go_wp2_with fail
 go_end0
 exact ⟨rfl, HM2.out, hB2, HK0.out.trans HK2.out, by simp at hs; omega⟩
theorem do_fail {w0 w : World} {M B : Nat} {F : Fix} {m : MS} (h : MachX w0 w M B F m) (hB : B ≤ w.heap.size) (x : Ins) (ta : Option Addr) (tc : Nat)  :
  Calls Tryz.prog 90 #[.pointer (some ⟨M, 0, none⟩), .agg #[.int .i64 x.op, .int .i64 x.pl, .int .i64 x.nx, .int .i64 x.n, .slice ta x.to.length tc]] w (DoP w0 w M B F ({ m with fin := some 1 })) := by
 obtain ⟨frV, outV, hy⟩ := h.y
 have hM : M < w.heap.size := by obtain ⟨_, _, _, q⟩ := h; exact q.size
 have hlt : M < B := by obtain ⟨_, _, _, q⟩ := h; exact q.lt
 have HM := hidc (hy.below (boxB w (.cells #[.int .i64 x.op, .int .i64 x.pl, .int .i64 x.nx, .int .i64 x.n, .slice ta x.to.length tc] 116)) hB)
 have hB1 : B ≤ (w.alloc (.cells #[.int .i64 x.op, .int .i64 x.pl, .int .i64 x.nx, .int .i64 x.n, .slice ta x.to.length tc] 116)).heap.size := by simp; omega
 have HK0 := hidc (KT.below (boxB w (.cells #[.int .i64 x.op, .int .i64 x.pl, .int .i64 x.nx, .int .i64 x.n, .slice ta x.to.length tc] 116)))
 clear h hy
 go_enter Tryz.func90, Tryz.ntmps90
 go_wp2_with fail
 refine (m_end HM.out.x hB1 1).mono ?_
 rintro e w2 ⟨rfl, hm, hB2, hk, hs⟩
 have HM2 := hidc hm
 have HK2 := hidc hk
 clear hm hk
 go_wp2_with fail
 go_end0
 exact ⟨rfl, HM2.out, hB2, HK0.out.trans HK2.out, by simp at hs; omega⟩
theorem do_push {w0 w : World} {M B : Nat} {F : Fix} {m : MS} (h : MachX w0 w M B F m) (hB : B ≤ w.heap.size) (x : Ins) (ta : Option Addr) (tc : Nat) (hn : x.n < 65536) (hl : m.st.length ≤ 100) :
  Calls Tryz.prog 91 #[.pointer (some ⟨M, 0, none⟩), .agg #[.int .i64 x.op, .int .i64 x.pl, .int .i64 x.nx, .int .i64 x.n, .slice ta x.to.length tc]] w (DoP w0 w M B F ({ m with st := m.st ++ [x.n] })) := by
 obtain ⟨frV, outV, hy⟩ := h.y
 have hM : M < w.heap.size := by obtain ⟨_, _, _, q⟩ := h; exact q.size
 have hlt : M < B := by obtain ⟨_, _, _, q⟩ := h; exact q.lt
 have HM := hidc (hy.below (boxB w (.cells #[.int .i64 x.op, .int .i64 x.pl, .int .i64 x.nx, .int .i64 x.n, .slice ta x.to.length tc] 116)) hB)
 have hB1 : B ≤ (w.alloc (.cells #[.int .i64 x.op, .int .i64 x.pl, .int .i64 x.nx, .int .i64 x.n, .slice ta x.to.length tc] 116)).heap.size := by simp; omega
 have HK0 := hidc (KT.below (boxB w (.cells #[.int .i64 x.op, .int .i64 x.pl, .int .i64 x.nx, .int .i64 x.n, .slice ta x.to.length tc] 116)))
 clear h hy
 go_enter Tryz.func91, Tryz.ntmps91
 have hw : IntKind.u16.wrap (x.n : Int) = (x.n : Int) := by rw [w16_wrap]; unfold w16; omega
 go_wp2_with fail
 refine wp_region_held_drew (S := fun _ => True) (by kernel_rfl) trivial (fun hHeld => ?_)
 refine tk 0 ?va0 rfl ?hya0 hHeld ?resta0
 case hya0 => intro w hSw; (try dsimp only at hSw); go_simp; try with_reducible rfl
 simp only [Act.put, aA, aB, aC, aD, aE]
 refine tk 1 ?va1 rfl ?hya1 hHeld ?resta1
 case hya1 => intro w hSw; (try dsimp only at hSw); go_simp; try with_reducible rfl
 simp only [Act.put, aA, aB, aC, aD, aE, aF]
 refine tk 2 ?va2 rfl ?hya2 hHeld ?resta2
 case hya2 => intro w hSw; (try dsimp only at hSw); go_simp; try with_reducible rfl
 simp only [Act.put, aA, aB, aC, aD, aE, aF]
 refine tk 3 ?va3 rfl ?hya3 hHeld ?resta3
 case hya3 => intro w hSw; (try dsimp only at hSw); go_simp; try with_reducible rfl
 simp only [Act.put, aA, aB, aC, aD, aE, aF]
 refine rd 4 rfl (fun K hK => ?_)
 simp only [aD, aE, aF]
 go_simp
 refine hK.out _ _ trivial (fun hHeld => ?_)
 clear hK
 refine tk 5 (.int .u16 (x.n : Int)) rfl ?hyb5 hHeld ?restb5
 case hyb5 => intro w hSw; (try dsimp only at hSw); go_simp; try with_reducible rfl
 simp only [Act.put, aA, aB, aC, aD, aE, aF]
 refine rd 6 rfl (fun K hK => ?_)
 simp only [aD, aE, aF]
 go_simp
 go_at_call 128
 refine (st_lay (m := m) (frV := frV) (outV := outV) (HM.out.below ((Below.refl _ _).drew) hB1) x.n hB1 hl).mono ?_
 rintro e w2 ⟨rfl, hm, hB2, hk, hs⟩
 have HM2 := hidc hm
 have HK2 := hidc hk
 clear hm hk
 go_wp2_with fail
 refine hK.out _ _ trivial (fun hHeld => ?_)
 clear hK
 refine wpAnyH_done (by kernel_rfl) ?_ _
 go_wp2_with fail
 go_end0
 exact ⟨rfl, HM2.out.x, hB2, HK0.out.trans (KT.trans (KT.below ((Below.refl _ _).drew)) HK2.out), by simp at hs; omega⟩
theorem do_pop {w0 w : World} {M B : Nat} {F : Fix} {m : MS} (h : MachX w0 w M B F m) (hB : B ≤ w.heap.size) (x : Ins) (ta : Option Addr) (tc : Nat) (hl : m.st.length ≤ 100) (h1 : 1 ≤ m.st.length) :
  Calls Tryz.prog 92 #[.pointer (some ⟨M, 0, none⟩), .agg #[.int .i64 x.op, .int .i64 x.pl, .int .i64 x.nx, .int .i64 x.n, .slice ta x.to.length tc]] w (DoP w0 w M B F ({ m with st := dropN m.st 1 })) := by
 obtain ⟨frV, outV, hy⟩ := h.y
 have hM : M < w.heap.size := by obtain ⟨_, _, _, q⟩ := h; exact q.size
 have hlt : M < B := by obtain ⟨_, _, _, q⟩ := h; exact q.lt
 have HM := hidc (hy.below (boxB w (.cells #[.int .i64 x.op, .int .i64 x.pl, .int .i64 x.nx, .int .i64 x.n, .slice ta x.to.length tc] 116)) hB)
 have hB1 : B ≤ (w.alloc (.cells #[.int .i64 x.op, .int .i64 x.pl, .int .i64 x.nx, .int .i64 x.n, .slice ta x.to.length tc] 116)).heap.size := by simp; omega
 have HK0 := hidc (KT.below (boxB w (.cells #[.int .i64 x.op, .int .i64 x.pl, .int .i64 x.nx, .int .i64 x.n, .slice ta x.to.length tc] 116)))
 clear h hy
 go_enter Tryz.func92, Tryz.ntmps92
 go_wp2_with fail
 refine (st_take HM.out hB1 (by omega) h1).mono ?_
 rintro e w2 ⟨rfl, hm, hB2, hk, hs⟩
 have HM2 := hidc hm
 have HK2 := hidc hk
 clear hm hk
 go_wp2_with fail
 go_end0
 exact ⟨rfl, HM2.out.x, hB2, HK0.out.trans HK2.out, by simp at hs; omega⟩
theorem do_add {w0 w : World} {M B : Nat} {F : Fix} {m : MS} (h : MachX w0 w M B F m) (hB : B ≤ w.heap.size) (x : Ins) (ta : Option Addr) (tc : Nat) (hl : m.st.length ≤ 100) (h2 : 2 ≤ m.st.length) :
  Calls Tryz.prog 93 #[.pointer (some ⟨M, 0, none⟩), .agg #[.int .i64 x.op, .int .i64 x.pl, .int .i64 x.nx, .int .i64 x.n, .slice ta x.to.length tc]] w (DoP w0 w M B F ({ m with st := dropN m.st 2 ++ [sumI 4 (topN m.st 1) (topN m.st 0)] })) := by
 obtain ⟨frV, outV, hy⟩ := h.y
 have hM : M < w.heap.size := by obtain ⟨_, _, _, q⟩ := h; exact q.size
 have hlt : M < B := by obtain ⟨_, _, _, q⟩ := h; exact q.lt
 have HM := hidc (hy.below (boxB w (.cells #[.int .i64 x.op, .int .i64 x.pl, .int .i64 x.nx, .int .i64 x.n, .slice ta x.to.length tc] 116)) hB)
 have hB1 : B ≤ (w.alloc (.cells #[.int .i64 x.op, .int .i64 x.pl, .int .i64 x.nx, .int .i64 x.n, .slice ta x.to.length tc] 116)).heap.size := by simp; omega
 have HK0 := hidc (KT.below (boxB w (.cells #[.int .i64 x.op, .int .i64 x.pl, .int .i64 x.nx, .int .i64 x.n, .slice ta x.to.length tc] 116)))
 clear h hy
 go_enter Tryz.func93, Tryz.ntmps93
 go_wp2_with fail
 refine (st_takeTwo HM.out hB1 (by omega) h2).mono ?_
 rintro e w2 ⟨rfl, hm, hB2, hk, hs⟩
 have HM2 := hidc hm
 have HK2 := hidc hk
 have HW : Hid (IntKind.u16.wrap ((topN m.st 1 : Int) + (topN m.st 0 : Int)) = ((sumI 4 (topN m.st 1) (topN m.st 0) : Nat) : Int)) := by
  show IntKind.u16.wrap ((topN m.st 1 : Int) + (topN m.st 0 : Int)) = ((sumI 4 (topN m.st 1) (topN m.st 0) : Nat) : Int)
  rw [w16_wrap]
  rfl
 have hw := HW.out
 clear hm hk
 go_wp2_with fail
 refine (st_lay HM2.out (sumI 4 (topN m.st 1) (topN m.st 0)) hB2 (by simp only [dropN_len]; omega)).mono ?_
 rintro e w3 ⟨rfl, hm, hB3, hk, hs3⟩
 have HM3 := hidc hm
 have HK3 := hidc hk
 clear hm hk
 go_wp2_with fail
 go_end0
 exact ⟨rfl, HM3.out.x, hB3, HK0.out.trans (HK2.out.trans HK3.out), by simp at hs; omega⟩
theorem do_sub {w0 w : World} {M B : Nat} {F : Fix} {m : MS} (h : MachX w0 w M B F m) (hB : B ≤ w.heap.size) (x : Ins) (ta : Option Addr) (tc : Nat) (hl : m.st.length ≤ 100) (h2 : 2 ≤ m.st.length) :
  Calls Tryz.prog 94 #[.pointer (some ⟨M, 0, none⟩), .agg #[.int .i64 x.op, .int .i64 x.pl, .int .i64 x.nx, .int .i64 x.n, .slice ta x.to.length tc]] w (DoP w0 w M B F ({ m with st := dropN m.st 2 ++ [sumI 5 (topN m.st 1) (topN m.st 0)] })) := by
 obtain ⟨frV, outV, hy⟩ := h.y
 have hM : M < w.heap.size := by obtain ⟨_, _, _, q⟩ := h; exact q.size
 have hlt : M < B := by obtain ⟨_, _, _, q⟩ := h; exact q.lt
 have HM := hidc (hy.below (boxB w (.cells #[.int .i64 x.op, .int .i64 x.pl, .int .i64 x.nx, .int .i64 x.n, .slice ta x.to.length tc] 116)) hB)
 have hB1 : B ≤ (w.alloc (.cells #[.int .i64 x.op, .int .i64 x.pl, .int .i64 x.nx, .int .i64 x.n, .slice ta x.to.length tc] 116)).heap.size := by simp; omega
 have HK0 := hidc (KT.below (boxB w (.cells #[.int .i64 x.op, .int .i64 x.pl, .int .i64 x.nx, .int .i64 x.n, .slice ta x.to.length tc] 116)))
 clear h hy
 go_enter Tryz.func94, Tryz.ntmps94
 go_wp2_with fail
 refine (st_takeTwo HM.out hB1 (by omega) h2).mono ?_
 rintro e w2 ⟨rfl, hm, hB2, hk, hs⟩
 have HM2 := hidc hm
 have HK2 := hidc hk
 have HW : Hid (IntKind.u16.wrap ((topN m.st 1 : Int) - (topN m.st 0 : Int)) = ((sumI 5 (topN m.st 1) (topN m.st 0) : Nat) : Int)) := by
  show IntKind.u16.wrap ((topN m.st 1 : Int) - (topN m.st 0 : Int)) = ((sumI 5 (topN m.st 1) (topN m.st 0) : Nat) : Int)
  rw [w16_wrap]
  rfl
 have hw := HW.out
 clear hm hk
 go_wp2_with fail
 refine (st_lay HM2.out (sumI 5 (topN m.st 1) (topN m.st 0)) hB2 (by simp only [dropN_len]; omega)).mono ?_
 rintro e w3 ⟨rfl, hm, hB3, hk, hs3⟩
 have HM3 := hidc hm
 have HK3 := hidc hk
 clear hm hk
 go_wp2_with fail
 go_end0
 exact ⟨rfl, HM3.out.x, hB3, HK0.out.trans (HK2.out.trans HK3.out), by simp at hs; omega⟩
theorem do_mul {w0 w : World} {M B : Nat} {F : Fix} {m : MS} (h : MachX w0 w M B F m) (hB : B ≤ w.heap.size) (x : Ins) (ta : Option Addr) (tc : Nat) (hl : m.st.length ≤ 100) (h2 : 2 ≤ m.st.length) :
  Calls Tryz.prog 95 #[.pointer (some ⟨M, 0, none⟩), .agg #[.int .i64 x.op, .int .i64 x.pl, .int .i64 x.nx, .int .i64 x.n, .slice ta x.to.length tc]] w (DoP w0 w M B F ({ m with st := dropN m.st 2 ++ [sumI 6 (topN m.st 1) (topN m.st 0)] })) := by
 obtain ⟨frV, outV, hy⟩ := h.y
 have hM : M < w.heap.size := by obtain ⟨_, _, _, q⟩ := h; exact q.size
 have hlt : M < B := by obtain ⟨_, _, _, q⟩ := h; exact q.lt
 have HM := hidc (hy.below (boxB w (.cells #[.int .i64 x.op, .int .i64 x.pl, .int .i64 x.nx, .int .i64 x.n, .slice ta x.to.length tc] 116)) hB)
 have hB1 : B ≤ (w.alloc (.cells #[.int .i64 x.op, .int .i64 x.pl, .int .i64 x.nx, .int .i64 x.n, .slice ta x.to.length tc] 116)).heap.size := by simp; omega
 have HK0 := hidc (KT.below (boxB w (.cells #[.int .i64 x.op, .int .i64 x.pl, .int .i64 x.nx, .int .i64 x.n, .slice ta x.to.length tc] 116)))
 clear h hy
 go_enter Tryz.func95, Tryz.ntmps95
 go_wp2_with fail
 refine (st_takeTwo HM.out hB1 (by omega) h2).mono ?_
 rintro e w2 ⟨rfl, hm, hB2, hk, hs⟩
 have HM2 := hidc hm
 have HK2 := hidc hk
 have HW : Hid (IntKind.u16.wrap ((topN m.st 1 : Int) * (topN m.st 0 : Int)) = ((sumI 6 (topN m.st 1) (topN m.st 0) : Nat) : Int)) := by
  show IntKind.u16.wrap ((topN m.st 1 : Int) * (topN m.st 0 : Int)) = ((sumI 6 (topN m.st 1) (topN m.st 0) : Nat) : Int)
  rw [w16_wrap]
  rfl
 have hw := HW.out
 clear hm hk
 go_wp2_with fail
 refine (st_lay HM2.out (sumI 6 (topN m.st 1) (topN m.st 0)) hB2 (by simp only [dropN_len]; omega)).mono ?_
 rintro e w3 ⟨rfl, hm, hB3, hk, hs3⟩
 have HM3 := hidc hm
 have HK3 := hidc hk
 clear hm hk
 go_wp2_with fail
 go_end0
 exact ⟨rfl, HM3.out.x, hB3, HK0.out.trans (HK2.out.trans HK3.out), by simp at hs; omega⟩
theorem do_less {w0 w : World} {M B : Nat} {F : Fix} {m : MS} (h : MachX w0 w M B F m) (hB : B ≤ w.heap.size) (x : Ins) (ta : Option Addr) (tc : Nat) (hl : m.st.length ≤ 100) (h2 : 2 ≤ m.st.length) :
  Calls Tryz.prog 96 #[.pointer (some ⟨M, 0, none⟩), .agg #[.int .i64 x.op, .int .i64 x.pl, .int .i64 x.nx, .int .i64 x.n, .slice ta x.to.length tc]] w (DoP w0 w M B F ({ m with st := dropN m.st 2 ++ [sumI 7 (topN m.st 1) (topN m.st 0)] })) := by
 obtain ⟨frV, outV, hy⟩ := h.y
 have hM : M < w.heap.size := by obtain ⟨_, _, _, q⟩ := h; exact q.size
 have hlt : M < B := by obtain ⟨_, _, _, q⟩ := h; exact q.lt
 have HM := hidc (hy.below (boxB w (.cells #[.int .i64 x.op, .int .i64 x.pl, .int .i64 x.nx, .int .i64 x.n, .slice ta x.to.length tc] 116)) hB)
 have hB1 : B ≤ (w.alloc (.cells #[.int .i64 x.op, .int .i64 x.pl, .int .i64 x.nx, .int .i64 x.n, .slice ta x.to.length tc] 116)).heap.size := by simp; omega
 have HK0 := hidc (KT.below (boxB w (.cells #[.int .i64 x.op, .int .i64 x.pl, .int .i64 x.nx, .int .i64 x.n, .slice ta x.to.length tc] 116)))
 clear h hy
 go_enter Tryz.func96, Tryz.ntmps96
 go_wp2_with fail
 refine (st_takeTwo HM.out hB1 (by omega) h2).mono ?_
 rintro e w2 ⟨rfl, hm, hB2, hk, hs⟩
 have HM2 := hidc hm
 have HK2 := hidc hk
 have HW : Hid (((if decide (topN m.st 1 < topN m.st 0) then 1 else 0 : Nat) : Int) = ((sumI 7 (topN m.st 1) (topN m.st 0) : Nat) : Int)) := by
  show ((if decide (topN m.st 1 < topN m.st 0) then 1 else 0 : Nat) : Int) = ((sumI 7 (topN m.st 1) (topN m.st 0) : Nat) : Int)
  simp [sumI]
 clear hm hk
 go_wp2_with fail
 refine wp_region_held_drew (S := fun _ => True) (by kernel_rfl) trivial (fun hHeld => ?_)
 refine tk 0 ?va0 rfl ?hya0 hHeld ?resta0
 case hya0 => intro w hSw; (try dsimp only at hSw); go_simp; try with_reducible rfl
 simp only [Act.put, aA, aB, aC, aD, aE]
 refine tk 1 ?va1 rfl ?hya1 hHeld ?resta1
 case hya1 => intro w hSw; (try dsimp only at hSw); go_simp; try with_reducible rfl
 simp only [Act.put, aA, aB, aC, aD, aE, aF]
 refine tk 2 ?va2 rfl ?hya2 hHeld ?resta2
 case hya2 => intro w hSw; (try dsimp only at hSw); go_simp; try with_reducible rfl
 simp only [Act.put, aA, aB, aC, aD, aE, aF]
 refine tk 3 ?va3 rfl ?hya3 hHeld ?resta3
 case hya3 => intro w hSw; (try dsimp only at hSw); go_simp; try with_reducible rfl
 simp only [Act.put, aA, aB, aC, aD, aE, aF]
 refine tk 4 ?va4 rfl ?hya4 hHeld ?resta4
 case hya4 => intro w hSw; (try dsimp only at hSw); go_simp; try with_reducible rfl
 simp only [Act.put, aA, aB, aC, aD, aE, aF]
 refine tk 5 ?va5 rfl ?hya5 hHeld ?resta5
 case hya5 => intro w hSw; (try dsimp only at hSw); go_simp; try with_reducible rfl
 simp only [Act.put, aA, aB, aC, aD, aE, aF]
 refine rd 6 rfl (fun K hK => ?_)
 simp only [aD, aE, aF]
 go_simp
 go_at_call 131
 refine (mach_truth _ _).mono ?_
 rw [HW.out]
 rintro e w3 ⟨rfl, rfl⟩
 go_wp2_with fail
 refine hK.out _ _ trivial (fun hHeld => ?_)
 clear hK
 refine rd 7 rfl (fun K hK => ?_)
 simp only [aD, aE, aF]
 go_simp
 go_at_call 128
 refine (st_lay (m := { m with st := dropN m.st 2 }) (frV := frV) (outV := outV) (HM2.out.below ((Below.refl _ _).drew) hB2) (sumI 7 (topN m.st 1) (topN m.st 0)) hB2 (by simp only [dropN_len]; omega)).mono ?_
 rintro e w4 ⟨rfl, hm, hB3, hk, hs3⟩
 have HM3 := hidc hm
 have HK3 := hidc hk
 clear hm hk
 go_wp2_with fail
 refine hK.out _ _ trivial (fun hHeld => ?_)
 clear hK
 refine wpAnyH_done (by kernel_rfl) ?_ _
 go_wp2_with fail
 go_end0
 exact ⟨rfl, HM3.out.x, hB3, HK0.out.trans (HK2.out.trans (KT.trans (KT.below ((Below.refl _ _).drew)) HK3.out)), by simp at hs hs3; omega⟩
theorem do_same {w0 w : World} {M B : Nat} {F : Fix} {m : MS} (h : MachX w0 w M B F m) (hB : B ≤ w.heap.size) (x : Ins) (ta : Option Addr) (tc : Nat) (hl : m.st.length ≤ 100) (h2 : 2 ≤ m.st.length) :
  Calls Tryz.prog 97 #[.pointer (some ⟨M, 0, none⟩), .agg #[.int .i64 x.op, .int .i64 x.pl, .int .i64 x.nx, .int .i64 x.n, .slice ta x.to.length tc]] w (DoP w0 w M B F ({ m with st := dropN m.st 2 ++ [sumI 8 (topN m.st 1) (topN m.st 0)] })) := by
 obtain ⟨frV, outV, hy⟩ := h.y
 have hM : M < w.heap.size := by obtain ⟨_, _, _, q⟩ := h; exact q.size
 have hlt : M < B := by obtain ⟨_, _, _, q⟩ := h; exact q.lt
 have HM := hidc (hy.below (boxB w (.cells #[.int .i64 x.op, .int .i64 x.pl, .int .i64 x.nx, .int .i64 x.n, .slice ta x.to.length tc] 116)) hB)
 have hB1 : B ≤ (w.alloc (.cells #[.int .i64 x.op, .int .i64 x.pl, .int .i64 x.nx, .int .i64 x.n, .slice ta x.to.length tc] 116)).heap.size := by simp; omega
 have HK0 := hidc (KT.below (boxB w (.cells #[.int .i64 x.op, .int .i64 x.pl, .int .i64 x.nx, .int .i64 x.n, .slice ta x.to.length tc] 116)))
 clear h hy
 go_enter Tryz.func97, Tryz.ntmps97
 go_wp2_with fail
 refine (st_takeTwo HM.out hB1 (by omega) h2).mono ?_
 rintro e w2 ⟨rfl, hm, hB2, hk, hs⟩
 have HM2 := hidc hm
 have HK2 := hidc hk
 have HW : Hid (((if ((topN m.st 1 : Int) == (topN m.st 0 : Int)) then 1 else 0 : Nat) : Int) = ((sumI 8 (topN m.st 1) (topN m.st 0) : Nat) : Int)) := by
  show ((if ((topN m.st 1 : Int) == (topN m.st 0 : Int)) then 1 else 0 : Nat) : Int) = ((sumI 8 (topN m.st 1) (topN m.st 0) : Nat) : Int)
  by_cases q : topN m.st 1 = topN m.st 0
  ·simp [sumI, q]
  ·have q' : ¬ (topN m.st 1 : Int) = (topN m.st 0 : Int) := by omega
   simp [sumI, q]
   omega
 clear hm hk
 go_wp2_with fail
 refine wp_region_held_drew (S := fun _ => True) (by kernel_rfl) trivial (fun hHeld => ?_)
 refine tk 0 ?va0 rfl ?hya0 hHeld ?resta0
 case hya0 => intro w hSw; (try dsimp only at hSw); go_simp; try with_reducible rfl
 simp only [Act.put, aA, aB, aC, aD, aE]
 refine tk 1 ?va1 rfl ?hya1 hHeld ?resta1
 case hya1 => intro w hSw; (try dsimp only at hSw); go_simp; try with_reducible rfl
 simp only [Act.put, aA, aB, aC, aD, aE, aF]
 refine tk 2 ?va2 rfl ?hya2 hHeld ?resta2
 case hya2 => intro w hSw; (try dsimp only at hSw); go_simp; try with_reducible rfl
 simp only [Act.put, aA, aB, aC, aD, aE, aF]
 refine tk 3 ?va3 rfl ?hya3 hHeld ?resta3
 case hya3 => intro w hSw; (try dsimp only at hSw); go_simp; try with_reducible rfl
 simp only [Act.put, aA, aB, aC, aD, aE, aF]
 refine tk 4 ?va4 rfl ?hya4 hHeld ?resta4
 case hya4 => intro w hSw; (try dsimp only at hSw); go_simp; try with_reducible rfl
 simp only [Act.put, aA, aB, aC, aD, aE, aF]
 refine tk 5 ?va5 rfl ?hya5 hHeld ?resta5
 case hya5 => intro w hSw; (try dsimp only at hSw); go_simp; try with_reducible rfl
 simp only [Act.put, aA, aB, aC, aD, aE, aF]
 refine rd 6 rfl (fun K hK => ?_)
 simp only [aD, aE, aF]
 go_simp
 go_at_call 131
 refine (mach_truth _ _).mono ?_
 rw [HW.out]
 rintro e w3 ⟨rfl, rfl⟩
 go_wp2_with fail
 refine hK.out _ _ trivial (fun hHeld => ?_)
 clear hK
 refine rd 7 rfl (fun K hK => ?_)
 simp only [aD, aE, aF]
 go_simp
 go_at_call 128
 refine (st_lay (m := { m with st := dropN m.st 2 }) (frV := frV) (outV := outV) (HM2.out.below ((Below.refl _ _).drew) hB2) (sumI 8 (topN m.st 1) (topN m.st 0)) hB2 (by simp only [dropN_len]; omega)).mono ?_
 rintro e w4 ⟨rfl, hm, hB3, hk, hs3⟩
 have HM3 := hidc hm
 have HK3 := hidc hk
 clear hm hk
 go_wp2_with fail
 refine hK.out _ _ trivial (fun hHeld => ?_)
 clear hK
 refine wpAnyH_done (by kernel_rfl) ?_ _
 go_wp2_with fail
 go_end0
 exact ⟨rfl, HM3.out.x, hB3, HK0.out.trans (HK2.out.trans (KT.trans (KT.below ((Below.refl _ _).drew)) HK3.out)), by simp at hs hs3; omega⟩
end Go.Proofs.YtdhmandnamajpaaGreatDoor
namespace Go.Proofs.YtdhmandnamajpaaGreatDoor
open Go.RowKit Go.Joins
set_option maxHeartbeats 1000000
theorem b1 (w : World) (o : Obj) : Below w.heap.size w (w.alloc o) := (Below.refl _ _).alloc (Nat.le_refl _) _
theorem b3 (w : World) (o o' o2 : Obj) : Below w.heap.size w (((w.alloc o).alloc o').alloc o2) := (below2 _ _ _).alloc (by simp; omega) _
theorem ref_last (op pl nx : Nat) (N : Int) (t : Value) (w : World) (ho : op < 21) :
  Calls Tryz.prog 136 #[.agg #[.int .i64 pl, .int .i64 op, .int .i64 N, t, .int .i64 nx]] w fun e w' => e = .returned (.bool (lastT op)) ∧ Below w.heap.size w w' := by
 rcases (show op = 0 ∨ op = 1 ∨ op = 15 ∨ op = 19 ∨ op = 20 ∨ (op ≠ 0 ∧ op ≠ 1 ∧ op ≠ 15 ∧ op ≠ 19 ∧ op ≠ 20) by omega) with rfl | rfl | rfl | rfl | rfl | ⟨e0, e1, e15, e19, e20⟩
 ·go_enter Tryz.func136, Tryz.ntmps136
  go_wp2_with fail
  go_ret
  exact ⟨rfl, b1 _ _⟩
 ·go_enter Tryz.func136, Tryz.ntmps136
  go_wp2_with fail
  go_ret
  exact ⟨rfl, b1 _ _⟩
 ·go_enter Tryz.func136, Tryz.ntmps136
  go_wp2_with fail
  go_ret
  exact ⟨rfl, b1 _ _⟩
 ·go_enter Tryz.func136, Tryz.ntmps136
  go_wp2_with fail
  go_ret
  exact ⟨rfl, b1 _ _⟩
 ·go_enter Tryz.func136, Tryz.ntmps136
  go_wp2_with fail
  go_ret
  exact ⟨rfl, b1 _ _⟩
 ·have HE : Hid (lastT op = false) := by show lastT op = false; simp [lastT, e0, e1, e15, e19, e20]
  have g0 : ((op : Int) == 0) = false := by simp; omega
  have g1 : ((op : Int) == 1) = false := by simp; omega
  have g2 : ((op : Int) == 15) = false := by simp; omega
  have g3 : ((op : Int) == 19) = false := by simp; omega
  have g4 : ((op : Int) == 20) = false := by simp; omega
  go_enter Tryz.func136, Tryz.ntmps136
  go_wp2_with fail
  go_ret
  exact ⟨ret_bool HE.out.symm, b1 _ _⟩
def numsAs (x : Ins) (N : Int) : Prop := numOp x.op = true → N = x.n
theorem ref_returns (S : List Sec) (d : ByteArray) (b off cap : Nat) (x : Ins) (N : Int) (t : Value) (w : World) (hS : SecsAt w b off S) (hN : numsAs x N) (hx : x.op = 20 → x.n < S.length) :
  Calls Tryz.prog 113 #[.agg #[.slice (some ⟨b, off, none⟩) S.length cap, .string d], .agg #[.int .i64 x.pl, .int .i64 x.op, .int .i64 N, t, .int .i64 x.nx]] w fun e w' => e = .returned (.bool (returnsB S x)) ∧ Below w.heap.size w w' := by
 have hb := hS.1
 have HS := hidc hS
 clear hS
 by_cases h2 : x.op = 20
 ·have h1 := hx h2
  have hNx : N = x.n := hN (by simp [numOp, h2])
  subst hNx
  obtain ⟨_, c1, _, _⟩ := HS.out.at x.n h1
  have HE : Hid (returnsB S x = (S[x.n].o != 128)) := by
   show returnsB S x = (S[x.n].o != 128)
   simp [returnsB, h2, outS_get S x.n h1]
  have h3 : ((x.op : Int) == 20) = true := by simp; omega
  have h4 : ((x.op : Int) == 19) = false := by simp; omega
  clear hN hx
  go_enter Tryz.func113, Tryz.ntmps113
  go_wp2_with fail
  go_ret
  exact ⟨ret_bool HE.out.symm, below2 _ _ _⟩
 ·have h3 : ((x.op : Int) == 20) = false := by simp; omega
  by_cases h5 : x.op = 19
  ·have HE : Hid (returnsB S x = true) := by show returnsB S x = true; simp [returnsB, h5]
   have h4 : ((x.op : Int) == 19) = true := by simp; omega
   clear hN hx
   go_enter Tryz.func113, Tryz.ntmps113
   go_wp2_with fail
   go_ret
   exact ⟨ret_bool HE.out.symm, below2 _ _ _⟩
  ·have HE : Hid (returnsB S x = false) := by show returnsB S x = false; simp [returnsB, h5, h2]
   have h4 : ((x.op : Int) == 19) = false := by simp; omega
   clear hN hx
   go_enter Tryz.func113, Tryz.ntmps113
   go_wp2_with fail
   go_ret
   exact ⟨ret_bool HE.out.symm, below2 _ _ _⟩
theorem ref_flow_plain (op pl nx b off cap len : Nat) (N : Int) (d : ByteArray) (t : Value) (s : Sec) (w : World) (ho : op < 21) (h9 : op ≠ 9) (h10 : op ≠ 10) (h18 : op ≠ 18) (h19 : op ≠ 19) (h20 : op ≠ 20) :
  Calls Tryz.prog 134 #[.agg #[.slice (some ⟨b, off, none⟩) len cap, .string d], .agg #[.int .i64 s.i, .int .i64 s.o, .int .i64 s.m, .string s.code], .agg #[.int .i64 pl, .int .i64 op, .int .i64 N, t, .int .i64 nx]] w fun e w' => e = .returned (.tuple #[.int .i64 (takesT op), .int .i64 (bringsT op)]) ∧ Below w.heap.size w w' := by
 rcases (show op = 0 ∨ op = 1 ∨ op = 2 ∨ op = 3 ∨ op = 4 ∨ op = 5 ∨ op = 6 ∨ op = 7 ∨ op = 8 ∨ op = 11 ∨ op = 12 ∨ op = 13 ∨ op = 14 ∨ op = 15 ∨ op = 16 ∨ op = 17 by omega) with rfl | rfl | rfl | rfl | rfl | rfl | rfl | rfl | rfl | rfl | rfl | rfl | rfl | rfl | rfl | rfl
 ·skip
  go_enter Tryz.func134, Tryz.ntmps134
  go_wp2_with fail
  go_ret2
  exact ⟨rfl, b3 _ _ _ _⟩
 ·skip
  go_enter Tryz.func134, Tryz.ntmps134
  go_wp2_with fail
  go_ret2
  exact ⟨rfl, b3 _ _ _ _⟩
 ·skip
  go_enter Tryz.func134, Tryz.ntmps134
  go_wp2_with fail
  go_ret2
  exact ⟨rfl, b3 _ _ _ _⟩
 ·skip
  go_enter Tryz.func134, Tryz.ntmps134
  go_wp2_with fail
  go_ret2
  exact ⟨rfl, b3 _ _ _ _⟩
 ·skip
  go_enter Tryz.func134, Tryz.ntmps134
  go_wp2_with fail
  go_ret2
  exact ⟨rfl, b3 _ _ _ _⟩
 ·skip
  go_enter Tryz.func134, Tryz.ntmps134
  go_wp2_with fail
  go_ret2
  exact ⟨rfl, b3 _ _ _ _⟩
 ·skip
  go_enter Tryz.func134, Tryz.ntmps134
  go_wp2_with fail
  go_ret2
  exact ⟨rfl, b3 _ _ _ _⟩
 ·skip
  go_enter Tryz.func134, Tryz.ntmps134
  go_wp2_with fail
  go_ret2
  exact ⟨rfl, b3 _ _ _ _⟩
 ·skip
  go_enter Tryz.func134, Tryz.ntmps134
  go_wp2_with fail
  go_ret2
  exact ⟨rfl, b3 _ _ _ _⟩
 ·skip
  go_enter Tryz.func134, Tryz.ntmps134
  go_wp2_with fail
  go_ret2
  exact ⟨rfl, b3 _ _ _ _⟩
 ·skip
  go_enter Tryz.func134, Tryz.ntmps134
  go_wp2_with fail
  go_ret2
  exact ⟨rfl, b3 _ _ _ _⟩
 ·skip
  go_enter Tryz.func134, Tryz.ntmps134
  go_wp2_with fail
  go_ret2
  exact ⟨rfl, b3 _ _ _ _⟩
 ·skip
  go_enter Tryz.func134, Tryz.ntmps134
  go_wp2_with fail
  go_ret2
  exact ⟨rfl, b3 _ _ _ _⟩
 ·skip
  go_enter Tryz.func134, Tryz.ntmps134
  go_wp2_with fail
  go_ret2
  exact ⟨rfl, b3 _ _ _ _⟩
 ·skip
  go_enter Tryz.func134, Tryz.ntmps134
  go_wp2_with fail
  go_ret2
  exact ⟨rfl, b3 _ _ _ _⟩
 ·skip
  go_enter Tryz.func134, Tryz.ntmps134
  go_wp2_with fail
  go_ret2
  exact ⟨rfl, b3 _ _ _ _⟩
theorem ref_flow (S : List Sec) (d : ByteArray) (b off cap : Nat) (x : Ins) (N : Int) (t : Value) (s : Sec) (w : World) (hS : SecsAt w b off S) (hN : numsAs x N) (ho : x.op < 21) (hn : x.op = 2 ∨ x.n < 256) (hx : namesB x = true → x.n < S.length) :
  Calls Tryz.prog 134 #[.agg #[.slice (some ⟨b, off, none⟩) S.length cap, .string d], .agg #[.int .i64 s.i, .int .i64 s.o, .int .i64 s.m, .string s.code], .agg #[.int .i64 x.pl, .int .i64 x.op, .int .i64 N, t, .int .i64 x.nx]] w fun e w' => e = .returned (.tuple #[.int .i64 (takesI S s x), .int .i64 (bringsI S x)]) ∧ Below w.heap.size w w' := by
 obtain ⟨op, pl, nx, n, to⟩ := x
 simp only at ho hn
 have hb := hS.1
 have HS := hidc hS
 clear hS
 by_cases h9 : op = 9
 ·subst h9
  obtain rfl : N = (n : Int) := hN rfl
  have e1 : takesI S s ⟨9, pl, nx, n, to⟩ = (n : Int) + 1 := by simp [takesI, takesT]; omega
  have e2 : bringsI S ⟨9, pl, nx, n, to⟩ = (n : Int) + 2 := by simp [bringsI, bringsT]; omega
  rw [e1, e2]
  clear hN hx e1 e2
  go_enter Tryz.func134, Tryz.ntmps134
  go_wp2_with fail
  go_quiet (fail)
  go_wp2_with fail
  go_ret2
  exact ⟨rfl, bdr (b3 _ _ _ _) _⟩
 by_cases h10 : op = 10
 ·subst h10
  obtain rfl : N = (n : Int) := hN rfl
  have e1 : takesI S s ⟨10, pl, nx, n, to⟩ = (n : Int) + 2 := by simp [takesI, takesT]; omega
  have e2 : bringsI S ⟨10, pl, nx, n, to⟩ = (n : Int) + 2 := by simp [bringsI, bringsT]; omega
  rw [e1, e2]
  clear hN hx e1 e2
  go_enter Tryz.func134, Tryz.ntmps134
  go_wp2_with fail
  go_quiet (fail)
  go_wp2_with fail
  go_ret2
  exact ⟨rfl, bdr (b3 _ _ _ _) _⟩
 by_cases h18 : op = 18
 ·subst h18
  obtain rfl : N = (n : Int) := hN rfl
  have hl := hx rfl
  simp only at hl
  obtain ⟨c0, c1, _, _⟩ := HS.out.at n hl
  have e1 : takesI S s ⟨18, pl, nx, n, to⟩ = S[n].i := by simp [takesI, inS_get S n hl]
  have e2 : bringsI S ⟨18, pl, nx, n, to⟩ = S[n].o := by simp [bringsI, outS_get S n hl]
  rw [e1, e2]
  clear hN hx e1 e2
  have hb3 := b3 w (.cells #[.slice (some ⟨b, off, none⟩) S.length cap, .string d] 40) (.cells #[.int .i64 s.i, .int .i64 s.o, .int .i64 s.m, .string s.code] 65) (.cells #[.int .i64 pl, .int .i64 18, .int .i64 n, t, .int .i64 nx] 129)
  have k0 := ((bcell hb3).1 b (off + n * 4) hb).trans c0
  have k1 := ((bcell hb3).1 b (off + n * 4 + 1) hb).trans c1
  clear c0 c1 hb3
  go_enter Tryz.func134, Tryz.ntmps134
  go_wp2_with fail
  go_quiet (fail)
  go_wp2_with fail
  go_ret2
  exact ⟨rfl, bdr (b3 _ _ _ _) _⟩
 by_cases h20 : op = 20
 ·subst h20
  obtain rfl : N = (n : Int) := hN rfl
  have hl := hx rfl
  simp only at hl
  obtain ⟨c0, c1, _, _⟩ := HS.out.at n hl
  have e1 : takesI S s ⟨20, pl, nx, n, to⟩ = S[n].i := by simp [takesI, inS_get S n hl]
  rw [e1]
  clear hN hx e1
  have hb3 := b3 w (.cells #[.slice (some ⟨b, off, none⟩) S.length cap, .string d] 40) (.cells #[.int .i64 s.i, .int .i64 s.o, .int .i64 s.m, .string s.code] 65) (.cells #[.int .i64 pl, .int .i64 20, .int .i64 n, t, .int .i64 nx] 129)
  have k0 := ((bcell hb3).1 b (off + n * 4) hb).trans c0
  have k1 := ((bcell hb3).1 b (off + n * 4 + 1) hb).trans c1
  clear c0 c1 hb3
  go_enter Tryz.func134, Tryz.ntmps134
  go_wp2_with fail
  go_ret2
  exact ⟨rfl, b3 _ _ _ _⟩
 by_cases h19 : op = 19
 ·subst h19
  by_cases h128 : s.o = 128
  ·have e1 : takesI S s ⟨19, pl, nx, n, to⟩ = 0 := by simp [takesI, h128]
   rw [e1]
   clear hN hx e1
   go_enter Tryz.func134, Tryz.ntmps134
   go_wp2_with fail
   go_ret2
   exact ⟨rfl, b3 _ _ _ _⟩
  ·have e1 : takesI S s ⟨19, pl, nx, n, to⟩ = s.o := by simp [takesI, h128]
   have e3 : (s.o == 128) = false := by simp [h128]
   rw [e1]
   clear hN hx e1
   go_enter Tryz.func134, Tryz.ntmps134
   go_wp2_with fail
   go_ret2
   exact ⟨rfl, b3 _ _ _ _⟩
 have e1 : takesI S s ⟨op, pl, nx, n, to⟩ = (takesT op : Int) := by simp [takesI, h9, h10, h18, h19, h20]
 have e2 : bringsI S ⟨op, pl, nx, n, to⟩ = (bringsT op : Int) := by simp [bringsI, h9, h10, h18, h19, h20]
 rw [e1, e2]
 exact ref_flow_plain op pl nx b off cap S.length N d t s w ho h9 h10 h18 h19 h20
end Go.Proofs.YtdhmandnamajpaaGreatDoor
