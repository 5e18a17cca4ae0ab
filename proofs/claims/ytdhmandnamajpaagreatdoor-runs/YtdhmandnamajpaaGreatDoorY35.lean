import Derived.Test.YtdhmandnamajpaaGreatDoorY00
import Derived.Test.YtdhmandnamajpaaGreatDoorY34
import Derived.Laws.OwnMore
import Derived.Deep.QuietTactic
import Derived.BigQuiet
namespace Go.Proofs.YtdhmandnamajpaaGreatDoor
open Go.RowKit Go.Joins
theorem Tryz.infoSec2 : (Tryz.prog.info? 65).map (fun i => (i.zero, i.size, i.bytes)) = some (some (.agg #[.int .i64 0, .int .i64 0, .int .i64 0, .string ⟨#[]⟩]), 4, 40) := by kernel_rfl
theorem Tryz.infoIntB : (Tryz.prog.info? 3).map (fun i => (i.zero, i.size, i.bytes)) = some (some (.int .i64 0), 1, 8) := by kernel_rfl
def hcells (b : ByteArray) (k : Nat) : List Value := (List.range k).flatMap fun i => [.int .i64 (hsec b i).i, .int .i64 (hsec b i).o, .int .i64 (hsec b i).m, .string ⟨#[]⟩]
def lcells (b : ByteArray) (k : Nat) : List Value := (List.range k).map fun i => .int .i64 (clen b i : Nat)
theorem hcells_succ (b : ByteArray) (k : Nat) : hcells b (k + 1) = hcells b k ++ [.int .i64 (hsec b k).i, .int .i64 (hsec b k).o, .int .i64 (hsec b k).m, .string ⟨#[]⟩] := by simp [hcells, List.range_succ]
theorem lcells_succ (b : ByteArray) (k : Nat) : lcells b (k + 1) = lcells b k ++ [.int .i64 (clen b k : Nat)] := by simp [lcells, List.range_succ]
theorem rows_ne {w : World} {B e e' s s' n n' : Nat} {v v' : Value} {xs xs' : List Value} (h : w.ownsRow B e s v n xs) (h' : w.ownsRow B e' s' v' n' xs') (hne : e ≠ e') : v.ownBlock = none ∨ v.ownBlock ≠ v'.ownBlock := by
 rcases h.2 with ⟨rfl, _⟩ | ⟨g, cap, cur, rfl, _, hg, _⟩
 ·exact .inl rfl
 ·right
  rcases h'.2 with ⟨rfl, _⟩ | ⟨g', cap', cur', rfl, _, hg', _⟩
  ·simp [Value.ownBlock]
  ·intro e2
   simp [Value.ownBlock] at e2
   subst e2
   rw [hg] at hg'
   simp at hg'
   exact hne hg'.2
theorem own_drewN {w : World} {B e s n q : Nat} {v : Value} {xs : List Value} (h : w.ownsRow B e s v n xs) : (w.drewN q).ownsRow B e s v n xs := h
theorem ref_number1i (b : ByteArray) (a : Int) (p : Nat) (w : World) (ha : a = (p : Int)) (hp : p ≤ 100000) :
  Calls Tryz.prog 58 #[.string b, .int .i64 a, .int .i64 1] w fun x w' => x = .returned (.int .i64 (refNum b p 1)) ∧ ∃ n, w' = w.drewN n := by
 subst ha; exact ref_number1 b p w hp
theorem ref_number2i (b : ByteArray) (a : Int) (p : Nat) (w : World) (ha : a = (p : Int)) (hp : p ≤ 100000) :
  Calls Tryz.prog 58 #[.string b, .int .i64 a, .int .i64 2] w fun x w' => x = .returned (.int .i64 (refNum b p 2)) ∧ ∃ n, w' = w.drewN n := by
 subst ha; exact ref_number2 b p w hp
theorem news4 (w : World) (x0 x1 x2 x3 : Value) (q : Nat) : ∀ j u, [x0, x1, x2, x3][j]? = some u → ((w.alloc (.cells #[x0, x1, x2, x3] 65)).drewN q).cell? ((⟨w.heap.size, 0, none⟩ : Addr).add j) = some u := by
 intro j u hj
 have hb : ((w.alloc (.cells #[x0, x1, x2, x3] 65)).drewN q).heap[w.heap.size]? = some (.cells #[x0, x1, x2, x3] 65 (0, 0)) := heap_alloc_new w _
 exact World.news_of_block hb j u hj
theorem news4a (w : World) (x0 x1 x2 x3 : Value) (g : Nat) (hg : g = w.heap.size) : ∀ j u, [x0, x1, x2, x3][j]? = some u → (w.alloc (.cells #[x0, x1, x2, x3] 65)).cell? ((⟨g, 0, none⟩ : Addr).add j) = some u := by
 subst hg
 exact news4 w x0 x1 x2 x3 0
theorem one4 (x y z : Int) (s : ByteArray) : ∀ u ∈ [Value.int .i64 x, .int .i64 y, .int .i64 z, .string s], u.oneCell' = true := by
 intro u hu
 simp at hu
 rcases hu with rfl | rfl | rfl | rfl <;> rfl
theorem news1 (w : World) (x : Value) (q : Nat) : ∀ j u, [x][j]? = some u → ((w.alloc (.cells #[x] 3)).drewN q).cell? ((⟨w.heap.size, 0, none⟩ : Addr).add j) = some u := by
 intro j u hj
 have hb : ((w.alloc (.cells #[x] 3)).drewN q).heap[w.heap.size]? = some (.cells #[x] 3 (0, 0)) := heap_alloc_new w _
 exact World.news_of_block hb j u hj
theorem news1a (w : World) (x : Value) (g : Nat) (hg : g = w.heap.size) : ∀ j u, [x][j]? = some u → (w.alloc (.cells #[x] 3)).cell? ((⟨g, 0, none⟩ : Addr).add j) = some u := by
 subst hg
 exact news1 w x 0
theorem one1 (x : Int) : ∀ u ∈ [Value.int .i64 x], u.oneCell' = true := by
 intro u hu
 simp at hu
 subst hu
 rfl
theorem row_facts {w : World} {B e sz n : Nat} {v : Value} {xs : List Value} (h : w.ownsRow B e sz v n xs) (hn : 0 < n) :
  ∃ g cap cur, v = .slice (some ⟨g, 0, none⟩) n cap ∧ B ≤ g ∧ w.heap[g]? = some (.cells cur e (0, 0)) ∧ n * sz ≤ cur.size ∧ ∀ i, i < n * sz → cur[i]? = xs[i]? := by
 rcases h.2 with ⟨_, h0⟩ | ⟨g, cap, cur, hv, hb, hg, hc, _, hs, ht⟩
 ·omega
 ·refine ⟨g, cap, cur, hv, hb, hg, by rw [hs]; exact Nat.mul_le_mul_right _ hc, fun i hi => ?_⟩
  rw [← ht, List.getElem?_take_of_lt hi]
  simp
theorem hcells_length (b : ByteArray) (k : Nat) : (hcells b k).length = k * 4 := by
 induction k with
 | zero => rfl
 | succ k ih => rw [hcells_succ, List.length_append, ih]; simp; omega
theorem hcells_get (b : ByteArray) (k i : Nat) (hi : i < k) : (hcells b k)[i * 4]? = some (.int .i64 (hsec b i).i) ∧ (hcells b k)[i * 4 + 1]? = some (.int .i64 (hsec b i).o) ∧ (hcells b k)[i * 4 + 2]? = some (.int .i64 (hsec b i).m) := by
 induction k with
 | zero => omega
 | succ k ih =>
  rw [hcells_succ]
  have hl := hcells_length b k
  by_cases e : i = k
  ·subst e
   rw [List.getElem?_append_right (by omega), List.getElem?_append_right (by omega), List.getElem?_append_right (by omega), hl]
   refine ⟨?_, ?_, ?_⟩
   ·rw [Nat.sub_self]; rfl
   ·rw [show i * 4 + 1 - i * 4 = 1 by omega]; rfl
   ·rw [show i * 4 + 2 - i * 4 = 2 by omega]; rfl
  ·obtain ⟨a, c, d⟩ := ih (by omega)
   rw [List.getElem?_append_left (by omega), List.getElem?_append_left (by omega), List.getElem?_append_left (by omega)]
   exact ⟨a, c, d⟩
theorem sec_done (b : ByteArray) (cs : Array Value) (k : Nat) (h : ∀ i, i < k * 4 → cs[i]? = (hcells b k)[i]?) : SecDone b cs k := by
 intro i hi
 obtain ⟨a, c, d⟩ := hcells_get b k i hi
 exact ⟨(h _ (by omega)).trans a, (h _ (by omega)).trans c, (h _ (by omega)).trans d⟩
def szf (b : ByteArray) (k i : Nat) : Nat := if i < k then clen b i else dlen b k
theorem szf_le (b : ByteArray) (k i : Nat) : szf b k i ≤ 65535 := by
 unfold szf clen dlen num2
 split
 ·have h1 := byteN_lt b (3 + 5 * i + 3)
  have h2 := byteN_lt b (3 + 5 * i + 3 + 1)
  omega
 ·have h1 := byteN_lt b (3 + 5 * k)
  have h2 := byteN_lt b (3 + 5 * k + 1)
  omega
theorem len_done (b : ByteArray) (zc : Array Value) (k : Nat) (D : Int) (hD : D = (dlen b k : Int)) (h : ∀ i, i < (k + 1) * 1 → zc[i]? = (lcells b k ++ [Value.int .i64 D])[i]?) : ∀ i, i ≤ k → zc[i]? = some (.int .i64 (szf b k i : Nat)) := by
 intro i hi
 rw [h i (by omega)]
 have hl : (lcells b k).length = k := by simp [lcells]
 by_cases e : i = k
 ·subst e
  rw [List.getElem?_append_right (by omega), hl, Nat.sub_self, hD]
  simp [szf]
 ·have hik : i < k := by omega
  rw [List.getElem?_append_left (by omega)]
  simp [lcells, hik, szf]
theorem cpos_mono (b : ByteArray) (n i j : Nat) (h : i ≤ j) : cpos b n i ≤ cpos b n j := by
 induction j with
 | zero =>
  have : i = 0 := by omega
  subst this; exact Nat.le_refl _
 | succ j ih =>
  by_cases e : i = j + 1
  ·subst e; exact Nat.le_refl _
  ·have := ih (by omega)
   show cpos b n i ≤ cpos b n j + clen b j
   omega
theorem short_end (b : ByteArray) (k j q : Nat) (hj : j ≤ k) (hq : q = cpos b k j) (h : b.size < q + szf b k j) : b.size < pend b k := by
 by_cases e : j < k
 ·have h1 : szf b k j = clen b j := by simp [szf, e]
  have h2 := cpos_mono b k (j + 1) k (by omega)
  have h3 : cpos b k (j + 1) = cpos b k j + clen b j := rfl
  unfold pend
  omega
 ·have : j = k := by omega
  subst this
  have h1 : szf b j j = dlen b j := by simp [szf]
  unfold pend
  omega
theorem headsE_stop (b : ByteArray) (k n : Nat) (h : headsE b k ≠ 0) (hk : k ≤ n) : headsE b n = headsE b k := by
 induction n with
 | zero =>
  have : k = 0 := by omega
  subst this; rfl
 | succ n ih =>
  by_cases e : k = n + 1
  ·subst e; rfl
  ·have := ih (by omega)
   show (if headsE b n ≠ 0 then headsE b n else headE b (3 + 5 * n)) = _
   rw [this, if_pos h]
theorem vals_end (b : ByteArray) (k p : Nat) (xs zs : List Value) (K : Int) (hp : p = 3 + 5 * k) (h : xs = hcells b k ∧ zs = lcells b k) (hv : refNum b p 1 = (num1 b p : Int) ∧ refNum b (p + 1) 1 = (num1 b (p + 1) : Int) ∧ refNum b (p + 2) 1 = (num1 b (p + 2) : Int) ∧ K = (num2 b (p + 3) : Int)) :
  xs ++ [.int .i64 (refNum b p 1), .int .i64 (refNum b (p + 1) 1), .int .i64 (refNum b (p + 2) 1), .string ⟨#[]⟩] = hcells b (k + 1) ∧ zs ++ [.int .i64 K] = lcells b (k + 1) := by
 obtain ⟨h1, h2⟩ := h
 obtain ⟨v1, v2, v3, v4⟩ := hv
 rw [h1, h2, v1, v2, v3, v4, hcells_succ, lcells_succ, hp]
 exact ⟨rfl, rfl⟩
theorem head_ref (b : ByteArray) (p : Nat) (ok : Bool) (h4 : ok = inB 1 120 (refNum b (p + 3) 2)) :
  (refWrong (refNum b p 1) (decide (refNum b p 1 ≤ 9)) ≠ 0 → headE b p = refWrong (refNum b p 1) (decide (refNum b p 1 ≤ 9))) ∧
  (refWrong (refNum b p 1) (decide (refNum b p 1 ≤ 9)) = 0 → refWrong (refNum b (p + 1) 1) (outB (refNum b (p + 1) 1)) ≠ 0 → headE b p = refWrong (refNum b (p + 1) 1) (outB (refNum b (p + 1) 1))) ∧
  (refWrong (refNum b p 1) (decide (refNum b p 1 ≤ 9)) = 0 → refWrong (refNum b (p + 1) 1) (outB (refNum b (p + 1) 1)) = 0 → refWrong (refNum b (p + 2) 1) (decide (refNum b (p + 2) 1 ≤ 40)) ≠ 0 → headE b p = refWrong (refNum b (p + 2) 1) (decide (refNum b (p + 2) 1 ≤ 40))) ∧
  (refWrong (refNum b p 1) (decide (refNum b p 1 ≤ 9)) = 0 → refWrong (refNum b (p + 1) 1) (outB (refNum b (p + 1) 1)) = 0 → refWrong (refNum b (p + 2) 1) (decide (refNum b (p + 2) 1 ≤ 40)) = 0 → headE b p = refWrong (refNum b (p + 3) 2) ok) := by
 rw [wrong_one b p 9, wrong_out b (p + 1), wrong_one b (p + 2) 40, wrong_code b (p + 3) ok h4]
 unfold headE
 refine ⟨fun h => if_pos h, fun h1 h2 => ?_, fun h1 h2 h3 => ?_, fun h1 h2 h3 => ?_⟩
 ·rw [if_neg (by simp [h1]), if_pos h2]
 ·rw [if_neg (by simp [h1]), if_neg (by simp [h2]), if_pos h3]
 ·rw [if_neg (by simp [h1]), if_neg (by simp [h2]), if_neg (by simp [h3])]
theorem vals_ref (b : ByteArray) (p : Nat) (ok : Bool) (h4 : ok = inB 1 120 (refNum b (p + 3) 2)) (h : refWrong (refNum b (p + 3) 2) ok = 0) :
  refNum b p 1 = (num1 b p : Int) ∧ refNum b (p + 1) 1 = (num1 b (p + 1) : Int) ∧ refNum b (p + 2) 1 = (num1 b (p + 2) : Int) ∧ refNum b (p + 3) 2 = (num2 b (p + 3) : Int) := by
 rw [wrong_code b (p + 3) ok h4] at h
 have := (er_zero h).1
 exact ⟨num_ok b p (by omega), num_ok b (p + 1) (by omega), num_ok b (p + 2) (by omega), num_ok2 b (p + 3) (by omega)⟩
set_option maxHeartbeats 8000000 in
set_option maxRecDepth 100000 in
theorem refParse_body (b : ByteArray) (w : World) (n : Nat) (hm : magicB b = false) (hn : num1 b 2 = n) (h3 : 3 ≤ b.size) (h1 : 1 ≤ n) (h6 : n ≤ 6) :
  Calls Tryz.prog 34 #[.string b] w fun x w' => ∃ sv dat e, x = .returned (.tuple #[.agg #[sv, .string dat], .int .i64 e]) ∧ e = bodyE b n ∧ (e = 0 → dat = pdat b n ∧ SlAt w.heap.size w' sv (psecs b n)) ∧ (e ≠ 0 → sv = .slice none 0 0 ∧ dat = ByteArray.empty) ∧ Below w.heap.size w w' := by
 have hc := not_magic b hm
 have hpos : 0 < b.size := by omega
 have hpos1 : 1 < b.size := by omega
 have h75 : byteN b 0 = 75 := by omega
 have h01 : byteN b 1 = 1 := by omega
 rw [byteN_get b 0 hpos] at h75
 rw [byteN_get b 1 hpos1] at h01
 have i0 : (0 : Int) < (b.size : Int) := by omega
 have i1 : (1 : Int) < (b.size : Int) := by omega
 have t0 : ((b[0].toNat : Int) != 75) = false := by simp [h75]
 have t1 : ((b[1].toNat : Int) != 1) = false := by simp [h01]
 have hN : refNum b 2 1 = (n : Int) := by rw [num_ok b 2 (by omega), hn]
 have hW : refWrong (n : Int) true = 0 := by simp [refWrong]
 have HN := hid hN
 have n1 : (1 : Int) ≤ (n : Int) := by omega
 have n6 : (n : Int) ≤ 6 := by omega
 have hn1 := hid h1
 have hn6 := hid h6
 have HNN := hid hn
 clear h75 h01 hc hm hN hn
 obtain ⟨is, his, hzs0, hzs1, hzs2⟩ := info_parts Tryz.infoSec2
 obtain ⟨iz, hiz, hzz0, hzz1, hzz2⟩ := info_parts Tryz.infoIntB
 go_enter Tryz.func34, Tryz.ntmps34
 go_wp2_with (first | (go_at_call 58; refine (ref_number1 b 2 _ (by omega)).mono ?_; rw [HN.out]; rintro x w1 ⟨rfl, nq, rfl⟩) | (go_at_call 59; refine (ref_wrong _ _ _).mono ?_; rintro x w2 ⟨rfl, rfl⟩))
 go_loopw [6, 7, 8, 9, 10] (fun se sa sl sz i wr => ∃ (k p : Nat) (E : Int) (xs zs : List Value), k ≤ n ∧ i = .int .i64 k ∧ se = .int .i64 E ∧ sa = .int .i64 p ∧ p ≤ 50 ∧ wr.ownsRow (w.heap.size + 2) 65 4 sl k xs ∧ wr.ownsRow (w.heap.size + 2) 3 1 sz k zs ∧ Hid (p = 3 + 5 * k) ∧ Hid (E = headsE b k) ∧ Hid (E = 0 → xs = hcells b k ∧ zs = lcells b k) ∧
   Below (w.heap.size + 2) ((w.alloc (.cells #[.slice none 0 0, .string ⟨#[]⟩] 40)).alloc (.cells #[.slice none 0 0, .string ⟨#[]⟩] 40)) wr) (fun _ _ _ _ i _ => n - (intOf i).toNat)
 case atStart => exact ⟨0, 3, 0, [], [], Nat.zero_le _, rfl, rfl, rfl, by omega, World.ownsRow_nil _ _ _ _, World.ownsRow_nil _ _ _ _, rfl, rfl, fun _ => ⟨rfl, rfl⟩, below_draws _ _ _⟩
 case round =>
  obtain ⟨k, p, E, xs, zs, hk, rfl, rfl, rfl, hp, hol, hoz, HP, HE, HX, hbel⟩ := hrel
  have HL := hid hol
  have HZ := hid hoz
  have HB := hid hbel
  have hsz : w.heap.size + 2 ≤ wr.heap.size := by have := hbel.size; simpa using this
  clear hol hoz hbel
  by_cases hlt : k < n ∧ E = 0
  ·obtain ⟨hkn, hE⟩ := hlt
   have q1 : (k : Int) < (n : Int) := by omega
   subst hE
   go_wp2_with fail
   refine (ref_number1i b _ p _ rfl (by omega)).mono ?_
   rintro x w3 ⟨rfl, c1, rfl⟩
   go_wp2_with fail
   refine (ref_number1i b _ (p + 1) _ (by omega) (by omega)).mono ?_
   rintro x w3 ⟨rfl, c2, rfl⟩
   go_wp2_with fail
   refine (ref_number1i b _ (p + 2) _ (by omega) (by omega)).mono ?_
   rintro x w3 ⟨rfl, c3, rfl⟩
   go_wp2_with fail
   refine (ref_number2i b _ (p + 3) _ (by omega) (by omega)).mono ?_
   rintro x w3 ⟨rfl, c4, rfl⟩
   have HH : Hid (headsE b (k + 1) = headE b p) := by
    show headsE b (k + 1) = headE b p
    have := HE.out
    rw [HP.out]
    simp [headsE, ← this]
   by_cases g1 : refWrong (refNum b p 1) (decide (refNum b p 1 ≤ 9)) = 0
   ·have t1 : (refWrong (refNum b p 1) (decide (refNum b p 1 ≤ 9)) == 0) = true := by simpa using g1
    have G1 := hid g1
    clear g1
    by_cases g2 : refWrong (refNum b (p + 1) 1) (outB (refNum b (p + 1) 1)) = 0
    ·have t2 : (refWrong (refNum b (p + 1) 1) (outB (refNum b (p + 1) 1)) == 0) = true := by simpa using g2
     have G2 := hid g2
     clear g2
     by_cases g3 : refWrong (refNum b (p + 2) 1) (decide (refNum b (p + 2) 1 ≤ 40)) = 0
     ·have t3 : (refWrong (refNum b (p + 2) 1) (decide (refNum b (p + 2) 1 ≤ 40)) == 0) = true := by simpa using g3
      have G3 := hid g3
      clear g3
      by_cases g4 : 1 ≤ refNum b (p + 3) 2
      ·have HK : Hid (decide (refNum b (p + 3) 2 ≤ 120) = inB 1 120 (refNum b (p + 3) 2)) := by show decide (refNum b (p + 3) 2 ≤ 120) = _; simp [inB, g4]
       go_wp2_with (first | (go_at_call 59; refine (ref_wrong _ _ _).mono ?_; rintro x w4 ⟨rfl, rfl⟩) | (go_at_call 60; refine (ref_gives _ _).mono ?_; rintro x w4 ⟨rfl, rfl⟩) | (at_builtin; refine wpList_append_lies _ rfl (.tmp 99) (.tmp 104) 38 rfl (w.heap.size + 2) 65 is (.agg #[.int .i64 0, .int .i64 0, .int .i64 0, .string ⟨#[]⟩]) 4 40 Tryz.underlying38 his hzs0 hzs1 hzs2 rfl (by decide) _ k xs rfl ((own_drewN HL.out).alloc _) ⟨wr.heap.size, 0, none⟩ 1 1 [.int .i64 (refNum b p 1), .int .i64 (refNum b (p + 1) 1), .int .i64 (refNum b (p + 2) 1), .string ⟨#[]⟩] rfl rfl (news4a _ _ _ _ _ _ rfl) (one4 _ _ _ _) (by decide) (by unfold maxLen; omega) (by omega) (Nat.le_trans hsz (by simp)) _ rfl ?_; intro ga ca w5 hown5 hgrow5 hat5 hlt5; have HZ5 := hid (((own_drewN HZ.out).alloc _).kept hgrow5 (rows_ne HZ.out HL.out (by decide))); have HL5 := hid hown5; have HB5 := hid (((HB.out.trans (below_draws _ _ _)).alloc (by simpa using hsz) _).grown hgrow5 (Nat.le_trans hsz (by simp)) (fun j hj => (HL.out.lt j hj).1)); have hsz5 : w.heap.size + 2 ≤ w5.heap.size := Nat.le_trans hsz (Nat.le_trans (by simp) hgrow5.size); clear hown5 hgrow5 hat5 hlt5) | (at_builtin; refine wpList_append_lies _ rfl (.tmp 106) (.tmp 108) 22 rfl (w.heap.size + 2) 3 iz (.int .i64 0) 1 8 Tryz.underlying22 hiz hzz0 hzz1 hzz2 rfl (by decide) _ k zs rfl (HZ5.out.alloc _) ⟨w5.heap.size, 0, none⟩ 1 1 [.int .i64 (refNum b (p + 3) 2)] rfl rfl (news1a _ _ _ rfl) (one1 _) (by decide) (by unfold maxLen; omega) (by omega) (Nat.le_trans hsz5 (by simp)) _ rfl ?_; intro gb cb w6 hown6 hgrow6 hat6 hlt6; have HL6 := hid ((HL5.out.alloc _).kept hgrow6 (rows_ne HL5.out HZ5.out (by decide))); have HZ6 := hid hown6; have HB6 := hid ((HB5.out.alloc hsz5 _).grown hgrow6 (Nat.le_trans hsz5 (by simp)) (fun j hj => (HZ5.out.lt j hj).1)); clear hown6 hgrow6 hat6 hlt6))
       go_roundw
       case rel =>
        refine ⟨k + 1, p + 5, _, _, _, by omega, by go_num, rfl, by go_num, by have := HP.out; omega, HL6.out, HZ6.out, by have := HP.out; show p + 5 = 3 + 5 * (k + 1); omega, ?_, ?_, HB6.out⟩
        ·show _ = headsE b (k + 1)
         rw [HH.out, (head_ref b p _ HK.out).2.2.2 G1.out G2.out G3.out]
        ·exact fun h => vals_end b k p xs zs _ HP.out (HX.out trivial) (vals_ref b p _ HK.out h)
       case measure => simp [intOf]; omega
      ·have HK : Hid (false = inB 1 120 (refNum b (p + 3) 2)) := (inB_low (by omega)).symm
       go_wp2_with (first | (go_at_call 59; refine (ref_wrong _ _ _).mono ?_; rintro x w4 ⟨rfl, rfl⟩) | (go_at_call 60; refine (ref_gives _ _).mono ?_; rintro x w4 ⟨rfl, rfl⟩) | (at_builtin; refine wpList_append_lies _ rfl (.tmp 99) (.tmp 104) 38 rfl (w.heap.size + 2) 65 is (.agg #[.int .i64 0, .int .i64 0, .int .i64 0, .string ⟨#[]⟩]) 4 40 Tryz.underlying38 his hzs0 hzs1 hzs2 rfl (by decide) _ k xs rfl ((own_drewN HL.out).alloc _) ⟨wr.heap.size, 0, none⟩ 1 1 [.int .i64 (refNum b p 1), .int .i64 (refNum b (p + 1) 1), .int .i64 (refNum b (p + 2) 1), .string ⟨#[]⟩] rfl rfl (news4a _ _ _ _ _ _ rfl) (one4 _ _ _ _) (by decide) (by unfold maxLen; omega) (by omega) (Nat.le_trans hsz (by simp)) _ rfl ?_; intro ga ca w5 hown5 hgrow5 hat5 hlt5; have HZ5 := hid (((own_drewN HZ.out).alloc _).kept hgrow5 (rows_ne HZ.out HL.out (by decide))); have HL5 := hid hown5; have HB5 := hid (((HB.out.trans (below_draws _ _ _)).alloc (by simpa using hsz) _).grown hgrow5 (Nat.le_trans hsz (by simp)) (fun j hj => (HL.out.lt j hj).1)); have hsz5 : w.heap.size + 2 ≤ w5.heap.size := Nat.le_trans hsz (Nat.le_trans (by simp) hgrow5.size); clear hown5 hgrow5 hat5 hlt5) | (at_builtin; refine wpList_append_lies _ rfl (.tmp 106) (.tmp 108) 22 rfl (w.heap.size + 2) 3 iz (.int .i64 0) 1 8 Tryz.underlying22 hiz hzz0 hzz1 hzz2 rfl (by decide) _ k zs rfl (HZ5.out.alloc _) ⟨w5.heap.size, 0, none⟩ 1 1 [.int .i64 (refNum b (p + 3) 2)] rfl rfl (news1a _ _ _ rfl) (one1 _) (by decide) (by unfold maxLen; omega) (by omega) (Nat.le_trans hsz5 (by simp)) _ rfl ?_; intro gb cb w6 hown6 hgrow6 hat6 hlt6; have HL6 := hid ((HL5.out.alloc _).kept hgrow6 (rows_ne HL5.out HZ5.out (by decide))); have HZ6 := hid hown6; have HB6 := hid ((HB5.out.alloc hsz5 _).grown hgrow6 (Nat.le_trans hsz5 (by simp)) (fun j hj => (HZ5.out.lt j hj).1)); clear hown6 hgrow6 hat6 hlt6))
       go_roundw
       case rel =>
        refine ⟨k + 1, p + 5, _, _, _, by omega, by go_num, rfl, by go_num, by have := HP.out; omega, HL6.out, HZ6.out, by have := HP.out; show p + 5 = 3 + 5 * (k + 1); omega, ?_, ?_, HB6.out⟩
        ·show _ = headsE b (k + 1)
         rw [HH.out, (head_ref b p _ HK.out).2.2.2 G1.out G2.out G3.out]
        ·exact fun h => vals_end b k p xs zs _ HP.out (HX.out trivial) (vals_ref b p _ HK.out h)
       case measure => simp [intOf]; omega
     ·have t3 : (refWrong (refNum b (p + 2) 1) (decide (refNum b (p + 2) 1 ≤ 40)) == 0) = false := by simpa using g3
      have G3 := hid g3
      clear g3
      go_wp2_with (first | (go_at_call 59; refine (ref_wrong _ _ _).mono ?_; rintro x w4 ⟨rfl, rfl⟩) | (go_at_call 60; refine (ref_gives _ _).mono ?_; rintro x w4 ⟨rfl, rfl⟩) | (at_builtin; refine wpList_append_lies _ rfl (.tmp 99) (.tmp 104) 38 rfl (w.heap.size + 2) 65 is (.agg #[.int .i64 0, .int .i64 0, .int .i64 0, .string ⟨#[]⟩]) 4 40 Tryz.underlying38 his hzs0 hzs1 hzs2 rfl (by decide) _ k xs rfl ((own_drewN HL.out).alloc _) ⟨wr.heap.size, 0, none⟩ 1 1 [.int .i64 (refNum b p 1), .int .i64 (refNum b (p + 1) 1), .int .i64 (refNum b (p + 2) 1), .string ⟨#[]⟩] rfl rfl (news4a _ _ _ _ _ _ rfl) (one4 _ _ _ _) (by decide) (by unfold maxLen; omega) (by omega) (Nat.le_trans hsz (by simp)) _ rfl ?_; intro ga ca w5 hown5 hgrow5 hat5 hlt5; have HZ5 := hid (((own_drewN HZ.out).alloc _).kept hgrow5 (rows_ne HZ.out HL.out (by decide))); have HL5 := hid hown5; have HB5 := hid (((HB.out.trans (below_draws _ _ _)).alloc (by simpa using hsz) _).grown hgrow5 (Nat.le_trans hsz (by simp)) (fun j hj => (HL.out.lt j hj).1)); have hsz5 : w.heap.size + 2 ≤ w5.heap.size := Nat.le_trans hsz (Nat.le_trans (by simp) hgrow5.size); clear hown5 hgrow5 hat5 hlt5) | (at_builtin; refine wpList_append_lies _ rfl (.tmp 106) (.tmp 108) 22 rfl (w.heap.size + 2) 3 iz (.int .i64 0) 1 8 Tryz.underlying22 hiz hzz0 hzz1 hzz2 rfl (by decide) _ k zs rfl (HZ5.out.alloc _) ⟨w5.heap.size, 0, none⟩ 1 1 [.int .i64 (refNum b (p + 3) 2)] rfl rfl (news1a _ _ _ rfl) (one1 _) (by decide) (by unfold maxLen; omega) (by omega) (Nat.le_trans hsz5 (by simp)) _ rfl ?_; intro gb cb w6 hown6 hgrow6 hat6 hlt6; have HL6 := hid ((HL5.out.alloc _).kept hgrow6 (rows_ne HL5.out HZ5.out (by decide))); have HZ6 := hid hown6; have HB6 := hid ((HB5.out.alloc hsz5 _).grown hgrow6 (Nat.le_trans hsz5 (by simp)) (fun j hj => (HZ5.out.lt j hj).1)); clear hown6 hgrow6 hat6 hlt6))
      go_roundw
      case rel =>
       refine ⟨k + 1, p + 5, _, _, _, by omega, by go_num, rfl, by go_num, by have := HP.out; omega, HL6.out, HZ6.out, by have := HP.out; show p + 5 = 3 + 5 * (k + 1); omega, ?_, ?_, HB6.out⟩
       ·show _ = headsE b (k + 1)
        rw [HH.out, (head_ref b p (inB 1 120 (refNum b (p + 3) 2)) rfl).2.2.1 G1.out G2.out G3.out]
       ·exact fun h => absurd h G3.out
      case measure => simp [intOf]; omega
    ·have t2 : (refWrong (refNum b (p + 1) 1) (outB (refNum b (p + 1) 1)) == 0) = false := by simpa using g2
     have G2 := hid g2
     clear g2
     go_wp2_with (first | (go_at_call 59; refine (ref_wrong _ _ _).mono ?_; rintro x w4 ⟨rfl, rfl⟩) | (go_at_call 60; refine (ref_gives _ _).mono ?_; rintro x w4 ⟨rfl, rfl⟩) | (at_builtin; refine wpList_append_lies _ rfl (.tmp 99) (.tmp 104) 38 rfl (w.heap.size + 2) 65 is (.agg #[.int .i64 0, .int .i64 0, .int .i64 0, .string ⟨#[]⟩]) 4 40 Tryz.underlying38 his hzs0 hzs1 hzs2 rfl (by decide) _ k xs rfl ((own_drewN HL.out).alloc _) ⟨wr.heap.size, 0, none⟩ 1 1 [.int .i64 (refNum b p 1), .int .i64 (refNum b (p + 1) 1), .int .i64 (refNum b (p + 2) 1), .string ⟨#[]⟩] rfl rfl (news4a _ _ _ _ _ _ rfl) (one4 _ _ _ _) (by decide) (by unfold maxLen; omega) (by omega) (Nat.le_trans hsz (by simp)) _ rfl ?_; intro ga ca w5 hown5 hgrow5 hat5 hlt5; have HZ5 := hid (((own_drewN HZ.out).alloc _).kept hgrow5 (rows_ne HZ.out HL.out (by decide))); have HL5 := hid hown5; have HB5 := hid (((HB.out.trans (below_draws _ _ _)).alloc (by simpa using hsz) _).grown hgrow5 (Nat.le_trans hsz (by simp)) (fun j hj => (HL.out.lt j hj).1)); have hsz5 : w.heap.size + 2 ≤ w5.heap.size := Nat.le_trans hsz (Nat.le_trans (by simp) hgrow5.size); clear hown5 hgrow5 hat5 hlt5) | (at_builtin; refine wpList_append_lies _ rfl (.tmp 106) (.tmp 108) 22 rfl (w.heap.size + 2) 3 iz (.int .i64 0) 1 8 Tryz.underlying22 hiz hzz0 hzz1 hzz2 rfl (by decide) _ k zs rfl (HZ5.out.alloc _) ⟨w5.heap.size, 0, none⟩ 1 1 [.int .i64 (refNum b (p + 3) 2)] rfl rfl (news1a _ _ _ rfl) (one1 _) (by decide) (by unfold maxLen; omega) (by omega) (Nat.le_trans hsz5 (by simp)) _ rfl ?_; intro gb cb w6 hown6 hgrow6 hat6 hlt6; have HL6 := hid ((HL5.out.alloc _).kept hgrow6 (rows_ne HL5.out HZ5.out (by decide))); have HZ6 := hid hown6; have HB6 := hid ((HB5.out.alloc hsz5 _).grown hgrow6 (Nat.le_trans hsz5 (by simp)) (fun j hj => (HZ5.out.lt j hj).1)); clear hown6 hgrow6 hat6 hlt6))
     go_roundw
     case rel =>
      refine ⟨k + 1, p + 5, _, _, _, by omega, by go_num, rfl, by go_num, by have := HP.out; omega, HL6.out, HZ6.out, by have := HP.out; show p + 5 = 3 + 5 * (k + 1); omega, ?_, ?_, HB6.out⟩
      ·show _ = headsE b (k + 1)
       rw [HH.out, (head_ref b p (inB 1 120 (refNum b (p + 3) 2)) rfl).2.1 G1.out G2.out]
      ·exact fun h => absurd h G2.out
     case measure => simp [intOf]; omega
   ·have t1 : (refWrong (refNum b p 1) (decide (refNum b p 1 ≤ 9)) == 0) = false := by simpa using g1
    have G1 := hid g1
    clear g1
    go_wp2_with (first | (go_at_call 59; refine (ref_wrong _ _ _).mono ?_; rintro x w4 ⟨rfl, rfl⟩) | (go_at_call 60; refine (ref_gives _ _).mono ?_; rintro x w4 ⟨rfl, rfl⟩) | (at_builtin; refine wpList_append_lies _ rfl (.tmp 99) (.tmp 104) 38 rfl (w.heap.size + 2) 65 is (.agg #[.int .i64 0, .int .i64 0, .int .i64 0, .string ⟨#[]⟩]) 4 40 Tryz.underlying38 his hzs0 hzs1 hzs2 rfl (by decide) _ k xs rfl ((own_drewN HL.out).alloc _) ⟨wr.heap.size, 0, none⟩ 1 1 [.int .i64 (refNum b p 1), .int .i64 (refNum b (p + 1) 1), .int .i64 (refNum b (p + 2) 1), .string ⟨#[]⟩] rfl rfl (news4a _ _ _ _ _ _ rfl) (one4 _ _ _ _) (by decide) (by unfold maxLen; omega) (by omega) (Nat.le_trans hsz (by simp)) _ rfl ?_; intro ga ca w5 hown5 hgrow5 hat5 hlt5; have HZ5 := hid (((own_drewN HZ.out).alloc _).kept hgrow5 (rows_ne HZ.out HL.out (by decide))); have HL5 := hid hown5; have HB5 := hid (((HB.out.trans (below_draws _ _ _)).alloc (by simpa using hsz) _).grown hgrow5 (Nat.le_trans hsz (by simp)) (fun j hj => (HL.out.lt j hj).1)); have hsz5 : w.heap.size + 2 ≤ w5.heap.size := Nat.le_trans hsz (Nat.le_trans (by simp) hgrow5.size); clear hown5 hgrow5 hat5 hlt5) | (at_builtin; refine wpList_append_lies _ rfl (.tmp 106) (.tmp 108) 22 rfl (w.heap.size + 2) 3 iz (.int .i64 0) 1 8 Tryz.underlying22 hiz hzz0 hzz1 hzz2 rfl (by decide) _ k zs rfl (HZ5.out.alloc _) ⟨w5.heap.size, 0, none⟩ 1 1 [.int .i64 (refNum b (p + 3) 2)] rfl rfl (news1a _ _ _ rfl) (one1 _) (by decide) (by unfold maxLen; omega) (by omega) (Nat.le_trans hsz5 (by simp)) _ rfl ?_; intro gb cb w6 hown6 hgrow6 hat6 hlt6; have HL6 := hid ((HL5.out.alloc _).kept hgrow6 (rows_ne HL5.out HZ5.out (by decide))); have HZ6 := hid hown6; have HB6 := hid ((HB5.out.alloc hsz5 _).grown hgrow6 (Nat.le_trans hsz5 (by simp)) (fun j hj => (HZ5.out.lt j hj).1)); clear hown6 hgrow6 hat6 hlt6))
    go_roundw
    case rel =>
     refine ⟨k + 1, p + 5, _, _, _, by omega, by go_num, rfl, by go_num, by have := HP.out; omega, HL6.out, HZ6.out, by have := HP.out; show p + 5 = 3 + 5 * (k + 1); omega, ?_, ?_, HB6.out⟩
     ·show _ = headsE b (k + 1)
      rw [HH.out, (head_ref b p (inB 1 120 (refNum b (p + 3) 2)) rfl).1 G1.out]
     ·exact fun h => absurd h G1.out
    case measure => simp [intOf]; omega
  ·have hA : wr.heap[w.heap.size]? = some (.cells #[.slice none 0 0, .string ⟨#[]⟩] 40 (0, 0)) := by
    rw [HB.out.block w.heap.size (by omega), Below.heap_alloc _ _ _ (by simp)]
    exact heap_alloc_new w _
   have hC : wr.heap[w.heap.size + 1]? = some (.cells #[.slice none 0 0, .string ⟨#[]⟩] 40 (0, 0)) := by
    rw [HB.out.block (w.heap.size + 1) (by omega)]
    have := heap_alloc_new (w.alloc (.cells #[.slice none 0 0, .string ⟨#[]⟩] 40)) (.cells #[.slice none 0 0, .string ⟨#[]⟩] 40)
    simpa using this
   have HBW : Hid (Below w.heap.size w wr) := (((Below.refl _ _).alloc (Nat.le_refl _) _).alloc (by simp) _).trans (HB.out.mono (by omega))
   by_cases hE : E = 0
   ·have hkn : k = n := by omega
    subst hkn
    subst hE
    have HH : Hid (headsE b k = 0) := HE.out.symm
    obtain ⟨hx, hz⟩ := HX.out rfl
    subst hx
    subst hz
    clear hlt HX HE
    go_wp2_with fail
    refine (ref_number2i b _ p _ rfl (by omega)).mono ?_
    rintro x w3 ⟨rfl, c1, rfl⟩
    go_wp2_with (first | (go_at_call 59; refine (ref_wrong _ _ _).mono ?_; rintro x w4 ⟨rfl, rfl⟩) | (at_builtin; refine wpList_append_lies _ rfl (.tmp 119) (.tmp 121) 22 rfl (w.heap.size + 2) 3 iz (.int .i64 0) 1 8 Tryz.underlying22 hiz hzz0 hzz1 hzz2 rfl (by decide) _ k (lcells b k) rfl ((own_drewN HZ.out).alloc _) ⟨wr.heap.size, 0, none⟩ 1 1 [.int .i64 (refNum b p 2)] rfl rfl (news1a _ _ _ rfl) (one1 _) (by decide) (by unfold maxLen; omega) (by omega) (Nat.le_trans hsz (by simp)) _ rfl ?_; intro gz cz w6 hown6 hgrow6 hat6 hlt6; have HL6 := hid (((own_drewN HL.out).alloc _).kept hgrow6 (rows_ne HL.out HZ.out (by decide))); have HZ6 := hid hown6; have HG6 := hid hgrow6; have HB6 := hid (((HB.out.trans (below_draws _ _ _)).alloc (by simpa using hsz) _).grown hgrow6 (Nat.le_trans hsz (by simp)) (fun j hj => (HZ.out.lt j hj).1)); clear hown6 hgrow6 hat6 hlt6))
    have WD := hid (wrong_data b p)
    have hk1 : 1 ≤ k := hn1.out
    have k1 : (0 : Int) < (k : Int) + 1 := by omega
    have hA6 : w6.heap[w.heap.size]? = some (.cells #[.slice none 0 0, .string ⟨#[]⟩] 40 (0, 0)) := by
     rw [HB6.out.block w.heap.size (by omega), Below.heap_alloc _ _ _ (by simp)]
     exact heap_alloc_new w _
    have hC6 : w6.heap[w.heap.size + 1]? = some (.cells #[.slice none 0 0, .string ⟨#[]⟩] 40 (0, 0)) := by
     rw [HB6.out.block (w.heap.size + 1) (by omega)]
     have := heap_alloc_new (w.alloc (.cells #[.slice none 0 0, .string ⟨#[]⟩] 40)) (.cells #[.slice none 0 0, .string ⟨#[]⟩] 40)
     simpa using this
    have HBW6 : Hid (Below w.heap.size w w6) := (((Below.refl _ _).alloc (Nat.le_refl _) _).alloc (by simp) _).trans (HB6.out.mono (by omega))
    clear hA hC
    by_cases g4 : refWrong (refNum b p 2) (decide (refNum b p 2 ≤ 60)) = 0
    ·have t4 : (refWrong (refNum b p 2) (decide (refNum b p 2 ≤ 60)) == 0) = true := by simpa using g4
     have G4 : Hid (er b (3 + 5 * k) 2 (inB 0 60 (dlen b k : Int)) = 0 ∧ p + 2 ≤ b.size ∧ refNum b p 2 = (dlen b k : Int)) := by
      have h := WD.out
      rw [g4] at h
      have h1 := er_zero h.symm
      refine ⟨?_, h1.1, ?_⟩
      ·rw [HP.out] at h; exact h.symm
      ·rw [num_ok2 b p (by omega), HP.out]; rfl
     obtain ⟨gl, cl, lc, hvl, hgl, hlb, hls, hlf⟩ := row_facts HL6.out (by omega)
     obtain ⟨gz', cz', zc, hvz, hgzz, hzb, _, hzf⟩ := row_facts HZ6.out (by omega)
     obtain ⟨rfl, _, rfl⟩ : gz = gz' ∧ True ∧ cz = cz' := by simp at hvz; exact ⟨hvz.1, trivial, hvz.2⟩
     have ZD := hid (len_done b zc k _ G4.out.2.2 hzf)
     have hne : gl ≠ gz := fun e => by subst e; rw [hlb] at hzb; simp at hzb
     have HLB := hid hlb
     have HZB := hid hzb
     have HA6 := hid hA6
     have HC6 := hid hC6
     have HSD := hid (sec_done b lc k hlf)
     subst hvl
     clear hlb hzb hA6 hC6 hlf hzf hvz g4
     go_loopw [7, 16] (fun sa i wr => ∃ (j q : Nat) (cs : Array Value) (dd : ByteArray), j ≤ k + 1 ∧ i = .int .i64 j ∧ sa = .int .i64 q ∧ q ≤ 100 + 66000 * j ∧ q ≤ b.size ∧ Hid (wr.heap[gl]? = some (.cells cs 65 (0, 0))) ∧ k * 4 ≤ cs.size ∧ Hid (wr.heap[gz]? = some (.cells zc 3 (0, 0))) ∧
       Hid (wr.heap[w.heap.size + 1]? = some (.cells #[.slice none 0 0, .string dd] 40 (0, 0))) ∧ Hid (wr.heap[w.heap.size]? = some (.cells #[.slice none 0 0, .string ⟨#[]⟩] 40 (0, 0))) ∧ Hid (Below w.heap.size w wr) ∧
       Hid (SecDone b cs k) ∧ Hid (CodeDone b k cs (min j k)) ∧ Hid (j ≤ k → q = cpos b k j ∧ dd = ⟨#[]⟩) ∧ Hid (j = k + 1 → q = pend b k ∧ dd = pdat b k)) (fun _ i _ => k + 1 - (intOf i).toNat)
     case atStart => exact ⟨0, p + 2, lc, ⟨#[]⟩, by omega, rfl, by go_num, by omega, G4.out.2.1, HLB, hls, HZB, HC6, HA6, HBW6, HSD, fun i hi => absurd hi (by omega), fun _ => ⟨by have := HP.out; show p + 2 = 5 + 5 * k; omega, rfl⟩, fun h => absurd h (by omega)⟩
     case round =>
      clear HLB HZB HC6 HA6 HBW6 HSD
      obtain ⟨j, q, cs, dd, hj, rfl, rfl, hq1, hq2, LB, hcs, ZB, CB, AB, BW, SD, CD, J1, J2⟩ := hrel
      have ca0 := cell_of_block AB.out 0
      have ca1 := cell_of_block AB.out 1
      have fa0 := unfrozen_of_block AB.out 0
      have fa1 := unfrozen_of_block AB.out 1
      have cc0 := cell_of_block CB.out 0
      have cc1 := cell_of_block CB.out 1
      have fc0 := unfrozen_of_block CB.out 0
      have fc1 := unfrozen_of_block CB.out 1
      by_cases hlt : j < k + 1
      ·have j1 : (j : Int) < (k : Int) + 1 := by omega
       have cz1 := (cell_of_block ZB.out j).trans (ZD.out j (by omega))
       have zle := szf_le b k j
       obtain ⟨S, hS⟩ : ∃ S, S = szf b k j := ⟨_, rfl⟩
       rw [← hS] at cz1 zle
       have HS := hid hS
       clear hS
       obtain ⟨hqq, hdd⟩ := J1.out (by omega)
       subst hdd
       have HQ := hid hqq
       clear hqq
       by_cases hsh : b.size < q + S
       ·go_wp2
        have HBk : ((wr.setCell ⟨w.heap.size, 0, none⟩ (.slice none 0 0)).setCell ⟨w.heap.size, 1, none⟩ (.string ⟨#[]⟩)).heap[w.heap.size]? = some (.cells #[.slice none 0 0, .string ⟨#[]⟩] 40 (0, 0)) := block_setCell (block_setCell AB.out _) _
        have b0 := cell_of_block HBk 0
        have b1 := cell_of_block HBk 1
        refine bodyPost_ret (v := .tuple #[.agg #[.slice none 0 0, .string ⟨#[]⟩], .int .i64 2]) (by simp [results, Tryz.results34, go_sem, b0, b1]) rfl ⟨_, _, _, rfl, ?_, fun h => by simp at h, fun _ => ⟨rfl, rfl⟩, (BW.out.setCell (Nat.le_refl _) _).setCell (Nat.le_refl _) _⟩
        have h1 := short_end b k j q (by omega) HQ.out (by rw [← HS.out]; exact hsh)
        unfold bodyE tailE
        rw [HH.out, if_neg (by simp), G4.out.1, if_neg (by simp), if_pos h1]
       ·by_cases hjk : j < k
        ·have j2 : (j : Int) < (k : Int) := by omega
         obtain ⟨o3, c3⟩ : ∃ v, wr.cell? ⟨gl, j * 4 + 3, none⟩ = some v := by
          rw [cell_of_block LB.out]
          exact ⟨_, Array.getElem?_eq_getElem (by omega)⟩
         have f3 := unfrozen_of_block LB.out (j * 4 + 3)
         go_wp2
         go_roundw
         case rel =>
          refine ⟨j + 1, q + S, cs.setIfInBounds (j * 4 + 3) (.string (b.extract q (q + S))), ⟨#[]⟩, by omega, by go_num, by go_num, by omega, by omega, block_setCell LB.out _, by simpa using hcs, ?_, ?_, ?_, BW.out.setCell (by show w.heap.size ≤ gl; omega) _, SD.out.code _ _, ?_, ?_, fun h => absurd h (by omega)⟩
          ·show _ = _
           rw [Below.heap_setCell _ _ _ _ (by show gz ≠ gl; omega)]; exact ZB.out
          ·show _ = _
           rw [Below.heap_setCell _ _ _ _ (by show w.heap.size + 1 ≠ gl; omega)]; exact CB.out
          ·show _ = _
           rw [Below.heap_setCell _ _ _ _ (by show w.heap.size ≠ gl; omega)]; exact AB.out
          ·have h1 := CD.out
           rw [Nat.min_eq_left (by omega)] at h1
           show CodeDone b k _ (min (j + 1) k)
           rw [Nat.min_eq_left (by omega)]
           have h2 := h1.step hcs hjk
           have h3 : (psec b k j).code = b.extract q (q + S) := by
            rw [HQ.out, HS.out]
            show b.extract (cpos b k j) (cpos b k j + clen b j) = _
            simp [szf, hjk]
           rw [h3] at h2
           exact h2
          ·intro _
           refine ⟨?_, rfl⟩
           rw [HQ.out, HS.out]
           show cpos b k j + szf b k j = cpos b k j + clen b j
           simp [szf, hjk]
         case measure => simp [intOf]; omega
        ·have hjk' : j = k := by omega
         subst hjk'
         go_wp2
         go_roundw
         case rel =>
          refine ⟨j + 1, q + S, cs, b.extract q (q + S), by omega, by go_num, by go_num, by omega, by omega, ?_, hcs, ?_, block_setCell CB.out _, ?_, BW.out.setCell (by show w.heap.size ≤ w.heap.size + 1; omega) _, SD.out, ?_, fun h => absurd h (by omega), ?_⟩
          ·show _ = _
           rw [Below.heap_setCell _ _ _ _ (by show gl ≠ w.heap.size + 1; omega)]; exact LB.out
          ·show _ = _
           rw [Below.heap_setCell _ _ _ _ (by show gz ≠ w.heap.size + 1; omega)]; exact ZB.out
          ·show _ = _
           rw [Below.heap_setCell _ _ _ _ (by show w.heap.size ≠ w.heap.size + 1; omega)]; exact AB.out
          ·have h1 := CD.out
           rw [Nat.min_eq_left (by omega)] at h1
           show CodeDone b j _ (min (j + 1) j)
           rw [Nat.min_eq_right (by omega)]
           exact h1
          ·intro _
           have h1 : S = dlen b j := by rw [HS.out]; simp [szf]
           rw [HQ.out, h1]
           exact ⟨rfl, rfl⟩
         case measure => simp [intOf]
      ·have hjk : j = k + 1 := by omega
       obtain ⟨hqq, hdd⟩ := J2.out hjk
       have HQ := hid hqq
       have HD := hid hdd
       have HJ := hid hjk
       have CD' : Hid (CodeDone b k cs k) := by
        have h1 := CD.out
        rw [hjk, Nat.min_eq_right (by omega)] at h1
        exact h1
       have j1 : ¬ (j : Int) < (k : Int) + 1 := by omega
       clear hqq hdd hjk
       by_cases hm : q < b.size
       ·go_wp2
        have HBk : ((wr.setCell ⟨w.heap.size, 0, none⟩ (.slice none 0 0)).setCell ⟨w.heap.size, 1, none⟩ (.string ⟨#[]⟩)).heap[w.heap.size]? = some (.cells #[.slice none 0 0, .string ⟨#[]⟩] 40 (0, 0)) := block_setCell (block_setCell AB.out _) _
        have b0 := cell_of_block HBk 0
        have b1 := cell_of_block HBk 1
        refine bodyPost_ret (v := .tuple #[.agg #[.slice none 0 0, .string ⟨#[]⟩], .int .i64 4]) (by simp [results, Tryz.results34, go_sem, b0, b1]) rfl ⟨_, _, _, rfl, ?_, fun h => by simp at h, fun _ => ⟨rfl, rfl⟩, (BW.out.setCell (Nat.le_refl _) _).setCell (Nat.le_refl _) _⟩
        have h1 : pend b k < b.size := by rw [← HQ.out]; exact hm
        unfold bodyE tailE
        rw [HH.out, if_neg (by simp), G4.out.1, if_neg (by simp), if_neg (by omega), if_pos h1]
       ·go_wp2
        have HA1 : (wr.setCell ⟨w.heap.size + 1, 0, none⟩ (.slice (some ⟨gl, 0, none⟩) k cl)).heap[w.heap.size]? = some (.cells #[.slice none 0 0, .string ⟨#[]⟩] 40 (0, 0)) := by
         rw [Below.heap_setCell _ _ _ _ (by show w.heap.size ≠ w.heap.size + 1; omega)]; exact AB.out
        have HBk : (((wr.setCell ⟨w.heap.size + 1, 0, none⟩ (.slice (some ⟨gl, 0, none⟩) k cl)).setCell ⟨w.heap.size, 0, none⟩ (.slice (some ⟨gl, 0, none⟩) k cl)).setCell ⟨w.heap.size, 1, none⟩ (.string dd)).heap[w.heap.size]? = some (.cells #[.slice (some ⟨gl, 0, none⟩) k cl, .string dd] 40 (0, 0)) := block_setCell (block_setCell HA1 _) _
        have b0 := cell_of_block HBk 0
        have b1 := cell_of_block HBk 1
        refine bodyPost_ret (v := .tuple #[.agg #[.slice (some ⟨gl, 0, none⟩) k cl, .string dd], .int .i64 0]) (by simp [results, Tryz.results34, go_sem, b0, b1]) rfl ⟨_, _, _, rfl, ?_, fun _ => ⟨HD.out, .inr ⟨gl, 0, cl, by rw [psecs_length], by omega, secs_at ?_ SD.out CD'.out⟩⟩, fun h => absurd rfl h, ((BW.out.setCell (by show w.heap.size ≤ w.heap.size + 1; omega) _).setCell (Nat.le_refl _) _).setCell (Nat.le_refl _) _⟩
        ·have h1 : ¬ pend b k < b.size := by rw [← HQ.out]; exact hm
         have h2 : ¬ b.size < pend b k := by rw [← HQ.out]; omega
         unfold bodyE tailE
         rw [HH.out, if_neg (by simp), G4.out.1, if_neg (by simp), if_neg h2, if_neg h1]
        ·rw [Below.heap_setCell _ _ _ _ (by show gl ≠ w.heap.size; omega), Below.heap_setCell _ _ _ _ (by show gl ≠ w.heap.size; omega), Below.heap_setCell _ _ _ _ (by show gl ≠ w.heap.size + 1; omega)]
         exact LB.out
    ·have t4 : (refWrong (refNum b p 2) (decide (refNum b p 2 ≤ 60)) == 0) = false := by simpa using g4
     have G4 := hid g4
     have HBE : Hid (refWrong (refNum b p 2) (decide (refNum b p 2 ≤ 60)) = bodyE b k) := by
      show _ = bodyE b k
      unfold bodyE tailE
      rw [HH.out, if_neg (by simp)]
      have h := WD.out
      rw [HP.out] at h g4 ⊢
      rw [h] at g4 ⊢
      exact (if_pos g4).symm
     have HA := hid hA6
     have ca0 := cell_of_block hA6 0
     have ca1 := cell_of_block hA6 1
     have fa0 := unfrozen_of_block hA6 0
     have fa1 := unfrozen_of_block hA6 1
     clear g4 hA6 hC6
     go_loopw [7, 16] (fun sa i w' => sa = .int .i64 ((p : Int) + 2) ∧ i = .int .i64 0 ∧ w' = w6) (fun _ _ _ => 0)
     case atStart => exact ⟨rfl, rfl, rfl⟩
     case round =>
      obtain ⟨rfl, rfl, rfl⟩ := hrel
      go_wp2
      have HBk : ((wr.setCell ⟨w.heap.size, 0, none⟩ (.slice none 0 0)).setCell ⟨w.heap.size, 1, none⟩ (.string ⟨#[]⟩)).heap[w.heap.size]? = some (.cells #[.slice none 0 0, .string ⟨#[]⟩] 40 (0, 0)) := block_setCell (block_setCell HA.out _) _
      have b0 := cell_of_block HBk 0
      have b1 := cell_of_block HBk 1
      exact bodyPost_ret (v := .tuple #[.agg #[.slice none 0 0, .string ⟨#[]⟩], .int .i64 (refWrong (refNum b p 2) (decide (refNum b p 2 ≤ 60)))]) (by simp [results, Tryz.results34, go_sem, b0, b1]) rfl ⟨_, _, _, rfl, HBE.out, fun h => absurd h G4.out, fun _ => ⟨rfl, rfl⟩, (HBW6.out.setCell (Nat.le_refl _) _).setCell (Nat.le_refl _) _⟩
   ·have tE : (E == 0) = false := by simpa using hE
    have HEE := hid hE
    have hk1 : 1 ≤ k := by
     rcases Nat.eq_zero_or_pos k with h | h
     ·subst h; exact absurd HE.out hE
     ·exact h
    have k1 : (0 : Int) < (k : Int) := by omega
    have HBE : Hid (E = bodyE b n) := by
     show E = bodyE b n
     have h := headsE_stop b k n (by rw [← HE.out]; exact hE) hk
     unfold bodyE
     rw [h, ← HE.out, if_pos hE]
    have HF := hid hlt
    obtain ⟨gz, cz, hvz, _⟩ := HZ.out.form (by omega)
    have HA := hid hA
    have ca0 := cell_of_block hA 0
    have ca1 := cell_of_block hA 1
    have fa0 := unfrozen_of_block hA 0
    have fa1 := unfrozen_of_block hA 1
    clear hE hlt hA hC
    subst hvz
    by_cases hkn : k < n
    all_goals
     go_wp2
     go_loopw [7, 16] (fun sa i w' => sa = .int .i64 p ∧ i = .int .i64 0 ∧ w' = wr) (fun _ _ _ => 0)
     case atStart => exact ⟨rfl, rfl, rfl⟩
     case round =>
      obtain ⟨rfl, rfl, rfl⟩ := hrel
      go_wp2
      have HBk : ((wr.setCell ⟨w.heap.size, 0, none⟩ (.slice none 0 0)).setCell ⟨w.heap.size, 1, none⟩ (.string ⟨#[]⟩)).heap[w.heap.size]? = some (.cells #[.slice none 0 0, .string ⟨#[]⟩] 40 (0, 0)) := block_setCell (block_setCell HA.out _) _
      have b0 := cell_of_block HBk 0
      have b1 := cell_of_block HBk 1
      exact bodyPost_ret (v := .tuple #[.agg #[.slice none 0 0, .string ⟨#[]⟩], .int .i64 E]) (by simp [results, Tryz.results34, go_sem, b0, b1]) rfl ⟨_, _, _, rfl, HBE.out, fun h => absurd h HEE.out, fun _ => ⟨rfl, rfl⟩, (HBW.out.setCell (Nat.le_refl _) _).setCell (Nat.le_refl _) _⟩
end Go.Proofs.YtdhmandnamajpaaGreatDoor
namespace Go.Proofs.YtdhmandnamajpaaGreatDoor
open Go.RowKit Go.Joins
theorem SlAt.form {B : Nat} {w : World} {v : Value} {S : List Sec} (h : SlAt B w v S) : ∃ a n c, v = .slice a n c := by
 rcases h with ⟨rfl, _⟩ | ⟨g, off, cap, rfl, _⟩
 ·exact ⟨_, _, _, rfl⟩
 ·exact ⟨_, _, _, rfl⟩
theorem SlAt.below {B B2 : Nat} {w w' : World} {v : Value} {S : List Sec} (h : SlAt B w v S) (hb : Below B2 w w') (hB : w.heap.size ≤ B2) : SlAt B w' v S := by
 rcases h with h | ⟨g, off, cap, hv, hg, hs⟩
 ·exact .inl h
 ·exact .inr ⟨g, off, cap, hv, hg, hs.below (Nat.lt_of_lt_of_le hs.1 hB) hb⟩
theorem SlAt.alloc {B : Nat} {w : World} {v : Value} {S : List Sec} (h : SlAt B w v S) (o : Obj) : SlAt B (w.alloc o) v S := h.below ((Below.refl _ _).alloc (Nat.le_refl _) o) (Nat.le_refl _)
def Parsed (b : ByteArray) (w : World) (x : Ending) (w' : World) : Prop := ∃ sv, x = .returned (.tuple #[.agg #[sv, .string (pD b)], .int .i64 (parseE b)]) ∧ SlAt w.heap.size w' sv (pS b) ∧ Below w.heap.size w w'
end Go.Proofs.YtdhmandnamajpaaGreatDoor
