/-
  Contract of layer 2's All: the tokens of a text, or the first error, are what the plain definitions say; below the heap's size at the call the world is as it was. Condition: strings of at most 2^30 bytes.
-/
import Derived.Test.YtccbdogfapiidaaLexTake
import Derived.Test.YtccbdogfapiidaaLexPure2
import Derived.Deep.LoopGhost
import Derived.WalkMore
namespace Go.Proofs.Ytccbdogfapiidaa
open Go.RowKit

theorem prefix_is (s p : ByteArray) (b : Bool) (w : World) (h : Lib.hasPrefix s.data.toList p.data.toList = b) :
    Calls Try.prog 20 #[.string s, .string p] w fun e w' => e = .returned (.bool b) ∧ w = w' := by
  rw [← h]; exact prefix_any s p w
theorem blank_is (c : UInt8) (b : Bool) (w : World) (h : W.blankB c = b) :
    Calls Try.prog 19 #[.int .u8 c.toNat] w fun e w' => e = .returned (.bool b) ∧ w = w' := by
  rw [← h]; exact blank_any c w
theorem from_ext (s : ByteArray) (k : Nat) : (s.extract k s.size).data.toList = s.data.toList.drop k := by
  rw [Lib.extract_data]; apply List.take_of_length_le; rw [List.length_drop, ← Lib.size_eq]; omega
theorem take_tok (s : ByteArray) (k : Nat) (w : World) (hs : s.size ≤ 1099511627776) (hk : k < s.size) {kd : Int} {wd : List UInt8} {b : Int} {n : Nat} (h : W.takeD (s.data.toList.drop k) = .tok kd wd b n) :
    Calls Try.prog 21 #[.string s, .int .i64 k] w fun e w' => e = .returned (.tuple #[tokV ⟨kd, k, wd, b⟩, .int .i64 ((k + n : Nat) : Int), .int .i64 0]) ∧ Below w.heap.size w w' := by
  have := take_any s k w hs hk
  rw [h] at this
  exact this
theorem take_bad (s : ByteArray) (k : Nat) (w : World) (hs : s.size ≤ 1099511627776) (hk : k < s.size) {er : Int} (h : W.takeD (s.data.toList.drop k) = .bad er) :
    Calls Try.prog 21 #[.string s, .int .i64 k] w fun e w' => e = .returned (.tuple #[zeroTok, .int .i64 0, .int .i64 er]) ∧ Below w.heap.size w w' := by
  have := take_any s k w hs hk
  rw [h] at this
  exact this

/-- What All leaves: the tokens in memory of the call's own, the place, the error. -/
def AllS (T : TypeId) (w : World) (r : W.Res) (e : Ending) (w' : World) : Prop :=
  ∃ v, e = .returned (.tuple #[v, .int .i64 (r.place : Int), .int .i64 r.err]) ∧ OwnT T w' w.heap.size v r.toks ∧ Below w.heap.size w w'

theorem line_gt {s : ByteArray} {k j : Nat} {hk : k < s.size} {hj : j < s.size} (h : s[k].toNat = 35) (h2 : s[j].toNat = 10) (h3 : k ≤ j) : k < j := by
  rcases Nat.lt_or_ge k j with hlt | hge
  · exact hlt
  · obtain rfl : k = j := by omega
    omega
theorem own_keep {T : TypeId} {w w1 : World} {base : Nat} {v : Value} {l : List W.Tok} (h : OwnT T w base v l) (hb : Below w.heap.size w w1) : OwnT T w1 base v l := by
  refine ⟨h.1, ?_⟩
  rcases h.2 with hn | ⟨g, cap, cur, rfl, hbg, hgg, rest⟩
  · exact .inl hn
  · refine .inr ⟨g, cap, cur, rfl, hbg, ?_, rest⟩
    rw [hb.block g (Array.getElem?_eq_some_iff.1 hgg).1]
    exact hgg

def RelA (s : ByteArray) (w : World) (g : Nat) (v i : Value) (wr : World) : Prop :=
  ∃ (k : Nat) (acc : List W.Tok), i = .int .i64 k ∧ OwnT 38 wr w.heap.size v acc ∧ Below w.heap.size w wr ∧ W.Reading s k acc ∧ k + g = s.size

set_option maxRecDepth 100000 in
set_option maxHeartbeats 2000000 in
theorem all_any (s : ByteArray) (w : World) (hs : s.size ≤ 1073741824) :
    Calls Try.prog 11 #[.string s] w (AllS 38 w (W.lexL 0 s.data.toList)) := by
  go_enter Try.func11, Try.ntmps11
  go_wp2
  go_step3
  go_wp2
  go_step3
  go_wp2
  go_loopg [5, 6] s.size (fun g v i wr => RelA s w g v i wr)
  case atStart => exact ⟨0, [], rfl, OwnT.nil _ _ _, Below.refl _ _, W.Reading.start s, Nat.zero_add _⟩
  case round =>
    obtain ⟨k, acc, rfl, hown, hb, hR, hg⟩ := hrel
    obtain ⟨go, rfl⟩ : ∃ go : Nat, go = gk := ⟨_, rfl⟩
    obtain ⟨wo, rfl⟩ : ∃ wo : World, wo = wr := ⟨_, rfl⟩
    have hks := hR.1
    have hac := hR.2.1
    have HR := Lib.hid hR
    have HG := Lib.hid hg
    clear hR hg
    have hsz := hb.size
    by_cases hlt : k < s.size
    · cases hbl : W.blankB s[k] with
      | true =>
        have HN := Lib.hid (HR.out.skip (n := 0) hlt (W.gap_blank s k hlt hbl))
        have HB := Lib.hid hbl
        clear hbl
        go_wp2_with fail
        refine (blank_is _ true _ HB.out).mono ?_
        rintro e w' ⟨rfl, rfl⟩
        go_wp2
        go_roundg (s.size - (k + 1))
        case rel => exact ⟨k + 1, acc, by go_num, hown, hb, HN.out, by omega⟩
        case measure => have := HG.out; omega
      | false =>
        have HB := Lib.hid hbl
        clear hbl
        by_cases h35 : s[k].toNat = 35
        · have b35 : ((s[k].toNat : Int) == 35) = true := by simp; omega
          have H35 := Lib.hid h35
          clear h35
          go_wp2_with fail
          refine (blank_is _ false _ HB.out).mono ?_
          rintro e w' ⟨rfl, rfl⟩
          go_wp2
          go_loopg [7] (s.size - k) (fun g i wx => ∃ j : Nat, i = .int .i64 j ∧ k ≤ j ∧ j ≤ s.size ∧ Hid (W.Lined s k j) ∧ Hid (j + g = s.size) ∧ wo = wx)
          case atStart => exact ⟨k, rfl, Nat.le_refl _, hks, W.Lined.start s k hks, (by show _ = _; omega), rfl⟩
          case round =>
            obtain ⟨j, rfl, hkj, hjs, HL, HJ, rfl⟩ := hrel
            by_cases hjl : j < s.size
            · by_cases h10 : s[j].toNat = 10
              · have b10 : ((s[j].toNat : Int) == 10) = true := by simp; omega
                have HK := Lib.hid (line_gt H35.out h10 hkj)
                have HN := Lib.hid (HR.out.line hlt HB.out H35.out hkj (HL.out.stop hjl h10))
                clear h10
                go_wp2
                go_roundg (s.size - j)
                case rel => exact ⟨j, acc, rfl, hown, hb, HN.out, by omega⟩
                case measure => have := HG.out; have := HK.out; omega
              · have b10 : ((s[j].toNat : Int) == 10) = false := by simp; omega
                have HN := Lib.hid (HL.out.next hjl h10)
                clear h10
                go_wp2
                go_roundg (s.size - (j + 1))
                case rel => exact ⟨j + 1, by go_num, by omega, by omega, HN, (by show _ = _; omega), rfl⟩
                case measure => have := HJ.out; omega
            · have HD := Lib.hid ((HR.out.line hlt HB.out H35.out hkj (HL.out.over (by omega))).done (by omega))
              go_wp2
              rw [Exit.noGoto_ret]
              go_ret3
              rw [HD.out]
              exact ⟨_, rfl, hown, hb⟩
        · have b35 : ((s[k].toNat : Int) == 35) = false := by simp; omega
          have H35 := Lib.hid h35
          clear h35
          cases hp : Lib.hasPrefix (s.data.toList.drop k) [47, 42] with
          | true =>
            have hk2 := W.pre2_size s k 47 42 hp
            have HP := Lib.hid hp
            clear hp
            go_wp2_with fail
            refine (blank_is _ false _ HB.out).mono ?_
            rintro e w' ⟨rfl, rfl⟩
            go_wp2_with fail
            refine (prefix_is (s.extract k s.size) ⟨#[47, 42]⟩ true _ (by rw [from_ext]; exact HP.out)).mono ?_
            rintro e w' ⟨rfl, rfl⟩
            go_wp2
            go_loopg [6, 8] (s.size - (k + 2)) (fun g a i wx => ∃ j : Nat, a = .int .i64 k ∧ i = .int .i64 j ∧ k + 2 ≤ j ∧ j ≤ s.size ∧ Hid (W.Starred s (k + 2) j) ∧ Hid (j + g = s.size) ∧ wo = wx)
            case atStart => exact ⟨k + 2, rfl, by go_num, Nat.le_refl _, hk2, W.Starred.start s (k + 2) hk2, (by show _ = _; omega), rfl⟩
            case round =>
              obtain ⟨j, rfl, rfl, hkj, hjs, HL, HJ, rfl⟩ := hrel
              by_cases hjl : j < s.size
              · cases hq : Lib.hasPrefix (s.data.toList.drop j) [42, 47] with
                | true =>
                  have hj2 := W.pre2_size s j 42 47 hq
                  have HN := Lib.hid (HR.out.star hlt HB.out H35.out HP.out hkj (HL.out.stop hq))
                  have HQ := Lib.hid hq
                  clear hq
                  go_wp2_with fail
                  refine (prefix_is (s.extract j s.size) ⟨#[42, 47]⟩ true _ (by rw [from_ext]; exact HQ.out)).mono ?_
                  rintro e w' ⟨rfl, rfl⟩
                  go_wp2
                  go_roundg (s.size - (j + 2))
                  case rel => exact ⟨j + 2, acc, by go_num, hown, hb, HN.out, by omega⟩
                  case measure => have := HG.out; omega
                | false =>
                  have HN := Lib.hid (HL.out.next hjl hq)
                  have HQ := Lib.hid hq
                  clear hq
                  go_wp2_with fail
                  refine (prefix_is (s.extract j s.size) ⟨#[42, 47]⟩ false _ (by rw [from_ext]; exact HQ.out)).mono ?_
                  rintro e w' ⟨rfl, rfl⟩
                  go_wp2
                  go_roundg (s.size - (j + 1))
                  case rel => exact ⟨j + 1, rfl, by go_num, by omega, by omega, HN, (by show _ = _; omega), rfl⟩
                  case measure => have := HJ.out; omega
              · have HD := Lib.hid (HR.out.unstar hlt HB.out H35.out HP.out (HL.out.over (by omega)))
                go_wp2
                rw [Exit.noGoto_ret]
                go_ret3
                rw [HD.out]
                exact ⟨_, rfl, OwnT.nil _ _ _, hb⟩
          | false =>
            have HO := Lib.hid (W.gap_no s k hlt HB.out H35.out hp)
            have HP := Lib.hid hp
            clear hp
            cases ht : W.takeD (s.data.toList.drop k) with
            | skip n => exact absurd ht W.takeD_noskip
            | bad er =>
              have her := W.takeD_bad ht
              have ber : (er != 0) = true := bne_iff_ne.2 her
              have HD := Lib.hid (HR.out.bad hlt HO.out ht)
              have HT := Lib.hid ht
              clear ht her
              go_wp2_with fail
              refine (blank_is _ false _ HB.out).mono ?_
              rintro e w' ⟨rfl, rfl⟩
              go_wp2_with fail
              refine (prefix_is (s.extract k s.size) ⟨#[47, 42]⟩ false _ (by rw [from_ext]; exact HP.out)).mono ?_
              rintro e w' ⟨rfl, rfl⟩
              go_wp2_with fail
              refine (take_bad s k _ (by omega) hlt HT.out).mono ?_
              rintro e w1 ⟨rfl, hb1⟩
              simp only [zeroTok]
              go_wp2
              rw [Exit.noGoto_ret]
              go_ret3
              rw [HD.out]
              exact ⟨_, rfl, OwnT.nil _ _ _, (hb.trans (hb1.mono hsz)).alloc (Nat.le_trans hsz hb1.size) _⟩
            | tok kd wd b n =>
              have hn := W.takeD_tok (W.ne_drop s k hlt) ht
              rw [List.length_drop, ← Lib.size_eq] at hn
              obtain ⟨hn1, hn2⟩ := hn
              have HN := Lib.hid (HR.out.tok hlt HO.out ht)
              have HT := Lib.hid ht
              clear ht
              go_wp2_with fail
              refine (blank_is _ false _ HB.out).mono ?_
              rintro e w' ⟨rfl, rfl⟩
              go_wp2_with fail
              refine (prefix_is (s.extract k s.size) ⟨#[47, 42]⟩ false _ (by rw [from_ext]; exact HP.out)).mono ?_
              rintro e w' ⟨rfl, rfl⟩
              go_wp2_with fail
              refine (take_tok s k _ (by omega) hlt HT.out).mono ?_
              rintro e w1 ⟨rfl, hb1⟩
              simp only [tokV]
              have hs1 := hb1.size
              have hown1 := own_keep hown hb1
              go_wp2_with (at_builtin; refine wpList_appT 23 38 Try.underlying23 tok_info _ rfl (.tmp 71) (.tmp 73) rfl w.heap.size u5 acc rfl (OwnT.alloc hown1 _) ⟨kd, k, wd, b⟩ 1 _ rfl (w1.heap.size + 1) (by simp) rfl (by omega) (by simp; omega) ?_; intro v2 w2 hown2 hb2)
              go_roundg (s.size - (k + n))
              case rel => exact ⟨k + n, acc ++ [⟨kd, k, wd, b⟩], by go_num, hown2, ((hb.trans (hb1.mono hsz)).alloc (Nat.le_trans hsz hs1) _).trans hb2, HN.out, by omega⟩
              case measure => have := HG.out; omega
    · have HD := Lib.hid (HR.out.done (by omega))
      go_wp2
      rw [Exit.noGoto_ret]
      go_ret3
      rw [HD.out]
      exact ⟨_, rfl, hown, hb⟩
end Go.Proofs.Ytccbdogfapiidaa
