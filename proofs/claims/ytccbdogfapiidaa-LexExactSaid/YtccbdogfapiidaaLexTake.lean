/-
  Contract of lex's take (layer 2): the token at a byte, and its end, or the error, is what the plain definitions say; below the heap's size at the call the world is as it was. Condition: strings of at most 2^40 bytes.
-/
import Derived.Test.YtccbdogfapiidaaLexLeaf
import Derived.Test.YtccbdogfapiidaaOwnT
namespace Go.Proofs.Ytccbdogfapiidaa
open Go.RowKit

def TookT (w : World) (k : Nat) (st : W.Step) (e : Ending) (w' : World) : Prop :=
  match st with
  | .tok kd wd b n => e = .returned (.tuple #[tokV ⟨kd, k, wd, b⟩, .int .i64 ((k + n : Nat) : Int), .int .i64 0]) ∧ Below w.heap.size w w'
  | .bad er => e = .returned (.tuple #[zeroTok, .int .i64 0, .int .i64 er]) ∧ Below w.heap.size w w'
  | .skip _ => False

theorem head_drop (s : ByteArray) (k : Nat) (h : k < s.size) : (s.data.toList.drop k).headD 0 = s[k] := by rw [W.drop_at s k h]; rfl
theorem take_ext (s : ByteArray) (k n : Nat) : (s.data.toList.drop k).take n = (s.extract k (k + n)).data.toList := by
  rw [Lib.extract_data]; congr 1; omega
theorem takeD_sign (s : ByteArray) (k : Nat) (h : k < s.size) (hs : W.signK s[k] ≠ 0) : W.takeD (s.data.toList.drop k) = .tok (W.signK s[k]) [] 0 1 := by
  unfold W.takeD; rw [head_drop s k h, if_pos hs]
theorem takeD_none (s : ByteArray) (k : Nat) (h : k < s.size) (hs : W.signK s[k] = 0) (hn : W.scanD (s.data.toList.drop k) = none) : W.takeD (s.data.toList.drop k) = .bad 2 := by
  unfold W.takeD; rw [head_drop s k h, if_neg (by simp [hs]), hn]
theorem takeD_mark (s : ByteArray) (k n : Nat) (h : k < s.size) (hs : W.signK s[k] = 0) (hn : W.scanD (s.data.toList.drop k) = some n) {m : Int} (hm : W.markK (s.extract k (k + n)).data.toList = m) (hm0 : m ≠ 0) : W.takeD (s.data.toList.drop k) = .tok 5 [] m n := by
  rw [← take_ext] at hm
  unfold W.takeD; rw [head_drop s k h, if_neg (fun h => h hs), hn]; simp only; rw [hm, if_pos hm0]
theorem takeD_err (s : ByteArray) (k n : Nat) (h : k < s.size) (hs : W.signK s[k] = 0) (hn : W.scanD (s.data.toList.drop k) = some n) (hm : W.markK (s.extract k (k + n)).data.toList = 0) {x : List UInt8} {e : Int} (hu : W.unqL (s.extract k (k + n)).data.toList = (x, e)) (he : e ≠ 0) : W.takeD (s.data.toList.drop k) = .bad e := by
  rw [← take_ext] at hm hu
  unfold W.takeD; rw [head_drop s k h, if_neg (fun h => h hs), hn]; simp only; rw [hm, hu, if_neg (fun h => h rfl), if_pos he]
theorem takeD_name (s : ByteArray) (k n : Nat) (h : k < s.size) (hs : W.signK s[k] = 0) (hn : W.scanD (s.data.toList.drop k) = some n) (hm : W.markK (s.extract k (k + n)).data.toList = 0) {x : List UInt8} (hu : W.unqL (s.extract k (k + n)).data.toList = (x, 0)) : W.takeD (s.data.toList.drop k) = .tok 1 x 0 n := by
  rw [← take_ext] at hm hu
  unfold W.takeD; rw [head_drop s k h, if_neg (fun h => h hs), hn]; simp only; rw [hm, hu, if_neg (fun h => h rfl), if_neg (fun h => h rfl)]
theorem scanL_D (s : ByteArray) (k : Nat) : W.scanL s.data.toList k = (W.scanD (s.data.toList.drop k)).map (· + k) := by
  have h0 : ¬ ((k : Int) < 0) := by omega
  simp only [W.scanL, h0, if_false, Int.toNat_natCast]

theorem blk_cell {w w1 : World} {cs : Array Value} {T : TypeId} (hb : Below (w.alloc (.cells cs T)).heap.size (w.alloc (.cells cs T)) w1) (j : Nat) : w1.cell? ⟨w.heap.size, j, none⟩ = cs[j]? :=
  (hb.cell (p := ⟨w.heap.size, j, none⟩) (by simp)).trans (World.cell?_alloc_mark w cs T (0, 0) j)
theorem blk_free {w w1 : World} {cs : Array Value} {T : TypeId} (hb : Below (w.alloc (.cells cs T)).heap.size (w.alloc (.cells cs T)) w1) (j : Nat) : w1.frozen? ⟨w.heap.size, j, none⟩ = false := by
  rw [hb.frozen (p := ⟨w.heap.size, j, none⟩) (by simp)]
  have : (w.alloc (.cells cs T)).heap[w.heap.size]? = some (.cells cs T (0, 0)) := heap_alloc_new w _
  unfold World.frozen?; simp only [this]; simp

theorem below4 {w w1 : World} {o : Obj} (hb : Below (w.alloc o).heap.size (w.alloc o) w1) (a b c d : Value) : Below w.heap.size w ((((w1.setCell ⟨w.heap.size, 0, none⟩ a).setCell ⟨w.heap.size, 1, none⟩ b).setCell ⟨w.heap.size, 2, none⟩ c).setCell ⟨w.heap.size, 3, none⟩ d) :=
  (((((((Below.refl _ _).alloc (Nat.le_refl _) _).trans (hb.mono (by simp))).setCell (Nat.le_refl _) _).setCell (Nat.le_refl _) _).setCell (Nat.le_refl _) _).setCell (Nat.le_refl _) _)

set_option maxHeartbeats 1000000 in
theorem take_any (s : ByteArray) (k : Nat) (w : World) (hs : s.size ≤ 1099511627776) (hk : k < s.size) :
    Calls Try.prog 21 #[.string s, .int .i64 k] w (TookT w k (W.takeD (s.data.toList.drop k))) := by
  by_cases hsg : W.signK s[k] ≠ 0
  · have b1 : (W.signK s[k] != 0) = true := by simp [hsg]
    have HT := Lib.hid (takeD_sign s k hk hsg)
    clear hsg
    go_enter Try.func21, Try.ntmps21
    go_wp2_with fail
    refine (sign_any _ _).mono ?_
    rintro e w' ⟨rfl, rfl⟩
    go_wp2
    rw [HT.out]
    exact bodyPost_ret (v := .tuple #[tokV ⟨W.signK s[k], k, [], 0⟩, .int .i64 ((k + 1 : Nat) : Int), .int .i64 0]) (by simp [results, Try.results21, go_sem, tokV]) rfl ⟨rfl, (Below.refl _ _).alloc (Nat.le_refl _) _⟩
  have hsg0 : W.signK s[k] = 0 := by omega
  have b1 : (W.signK s[k] != 0) = false := by simp [hsg0]
  have HS := Lib.hid hsg0
  clear hsg hsg0
  cases hsc : W.scanD (s.data.toList.drop k) with
  | none =>
    have HT := Lib.hid (takeD_none s k hk HS.out hsc)
    have HL := Lib.hid (show W.scanL s.data.toList k = none by rw [scanL_D, hsc]; rfl)
    clear hsc
    go_enter Try.func21, Try.ntmps21
    go_wp2_with fail
    refine (sign_any _ _).mono ?_
    rintro e w' ⟨rfl, rfl⟩
    go_wp2_with fail
    refine (scan2_is s k none _ hs HL.out).mono ?_
    rintro e w' ⟨rfl, rfl⟩
    simp only [W.optN, Option.isSome]
    go_wp2
    rw [HT.out]
    exact bodyPost_ret (v := .tuple #[zeroTok, .int .i64 0, .int .i64 2]) (by simp [results, Try.results21, go_sem, zeroTok]) rfl ⟨rfl, (Below.refl _ _).alloc (Nat.le_refl _) _⟩
  | some n =>
    have hn := W.scanD_le _ _ hsc
    rw [List.length_drop, ← Lib.size_eq] at hn
    obtain ⟨hn1, hn2⟩ := hn
    have HL := Lib.hid (show W.scanL s.data.toList k = some (k + n) by rw [scanL_D, hsc]; simp; omega)
    have HSC := Lib.hid hsc
    have hes : (s.extract k (k + n)).size ≤ 1099511627776 := by rw [W.rest_size _ _ _ (by omega)]; omega
    clear hsc
    obtain ⟨m, hm⟩ : ∃ m, W.markK (s.extract k (k + n)).data.toList = m := ⟨_, rfl⟩
    have HM := Lib.hid hm
    clear hm
    by_cases hm : m ≠ 0
    · have HT := Lib.hid (takeD_mark s k n hk HS.out HSC.out HM.out hm)
      have b2 : (m != 0) = true := bne_iff_ne.2 hm
      clear hm
      go_enter Try.func21, Try.ntmps21
      go_wp2_with fail
      refine (sign_any _ _).mono ?_
      rintro e w' ⟨rfl, rfl⟩
      go_wp2_with fail
      refine (scan2_is s k (some (k + n)) _ hs HL.out).mono ?_
      rintro e w' ⟨rfl, rfl⟩
      simp only [W.optN, Option.isSome]
      go_wp2_with fail
      refine (mark_is (s.extract k (k + n)) m _ HM.out).mono ?_
      rintro e w' ⟨rfl, rfl⟩
      go_wp2
      rw [HT.out]
      exact bodyPost_ret (v := .tuple #[tokV ⟨5, k, [], m⟩, .int .i64 ((k + n : Nat) : Int), .int .i64 0]) (by simp [results, Try.results21, go_sem, tokV]) rfl ⟨rfl, (Below.refl _ _).alloc (Nat.le_refl _) _⟩
    · obtain rfl : m = 0 := by omega
      obtain ⟨x, er, hu⟩ : ∃ x er, W.unqL (s.extract k (k + n)).data.toList = (x, er) := ⟨_, _, rfl⟩
      clear hm
      by_cases her : er ≠ 0
      · have HT := Lib.hid (takeD_err s k n hk HS.out HSC.out HM.out hu her)
        have b3 : (er != 0) = true := bne_iff_ne.2 her
        have HU := Lib.hid hu
        clear hu her
        go_enter Try.func21, Try.ntmps21
        go_wp2_with fail
        refine (sign_any _ _).mono ?_
        rintro e w' ⟨rfl, rfl⟩
        go_wp2_with fail
        refine (scan2_is s k (some (k + n)) _ hs HL.out).mono ?_
        rintro e w' ⟨rfl, rfl⟩
        simp only [W.optN, Option.isSome]
        go_wp2_with fail
        refine (mark_is (s.extract k (k + n)) 0 _ HM.out).mono ?_
        rintro e w' ⟨rfl, rfl⟩
        go_wp2_with fail
        refine (unq_is (s.extract k (k + n)) x er _ hes HU.out).mono ?_
        rintro e w1 ⟨rfl, hb1⟩
        have c0 := blk_cell hb1 0
        have c1 := blk_cell hb1 1
        have c2 := blk_cell hb1 2
        have c3 := blk_cell hb1 3
        have f0 := blk_free hb1 0
        have f1 := blk_free hb1 1
        have f2 := blk_free hb1 2
        have f3 := blk_free hb1 3
        simp only [List.getElem?_toArray, List.getElem?_cons_zero, List.getElem?_cons_succ] at c0 c1 c2 c3
        go_wp2
        rw [HT.out]
        exact bodyPost_ret (v := .tuple #[zeroTok, .int .i64 0, .int .i64 er]) (by simp [results, Try.results21, go_sem, zeroTok, c0, c1, c2, c3]) rfl ⟨rfl, below4 hb1 _ _ _ _⟩
      · obtain rfl : er = 0 := by omega
        have HT := Lib.hid (takeD_name s k n hk HS.out HSC.out HM.out hu)
        have HU := Lib.hid hu
        clear hu her
        go_enter Try.func21, Try.ntmps21
        go_wp2_with fail
        refine (sign_any _ _).mono ?_
        rintro e w' ⟨rfl, rfl⟩
        go_wp2_with fail
        refine (scan2_is s k (some (k + n)) _ hs HL.out).mono ?_
        rintro e w' ⟨rfl, rfl⟩
        simp only [W.optN, Option.isSome]
        go_wp2_with fail
        refine (mark_is (s.extract k (k + n)) 0 _ HM.out).mono ?_
        rintro e w' ⟨rfl, rfl⟩
        go_wp2_with fail
        refine (unq_is (s.extract k (k + n)) x 0 _ hes HU.out).mono ?_
        rintro e w1 ⟨rfl, hb1⟩
        have c0 := blk_cell hb1 0
        have c1 := blk_cell hb1 1
        have c2 := blk_cell hb1 2
        have c3 := blk_cell hb1 3
        have f0 := blk_free hb1 0
        have f1 := blk_free hb1 1
        have f2 := blk_free hb1 2
        have f3 := blk_free hb1 3
        simp only [List.getElem?_toArray, List.getElem?_cons_zero, List.getElem?_cons_succ] at c0 c1 c2 c3
        go_wp2
        rw [HT.out]
        exact bodyPost_ret (v := .tuple #[tokV ⟨1, k, x, 0⟩, .int .i64 ((k + n : Nat) : Int), .int .i64 0]) (by simp [results, Try.results21, go_sem, tokV, c0, c1, c2, c3]) rfl ⟨rfl, below4 hb1 _ _ _ _⟩
end Go.Proofs.Ytccbdogfapiidaa
